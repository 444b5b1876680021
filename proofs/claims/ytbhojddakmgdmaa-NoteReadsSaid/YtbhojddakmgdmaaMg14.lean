/-
  Several texts in one: NtRiShard, IntMap, OnMath.
-/
import Derived.Test.YtbhojddakmgdmaaMg09
import Derived.Test.YtbhojddakmgdmaaMg13
import Derived.Test.YtbhojddakmgdmaaChecked
import Derived.WalkKit
import Derived.Below
import Derived.Lib.Hide
import Derived.Maps.OwnSet
import Derived.Lib.SlKeysI
import Derived.Test.YtbhojddakmgdmaaMg05
namespace Go.Proofs.Ytbhojddakmgdmaa
open Go.RowKit Go.Gz

/-- what takeSpan answers. -/
def RetSp1 (gp : Nat) (st : St) (w : World) (e : Ending) (w' : World) : Prop :=
  ∃ y : RecL, e = .returned (.agg #[.string (strB y.1), .string (strB y.2)]) ∧ RdAt w' gp (rdR recC st) ∧ Chg gp w w' ∧ (∀ r, rdR recC st = .ok r → y = rdV recC ([], []) st)
set_option maxHeartbeats 1000000 in
theorem takeSpan_any (w : World) (g : Nat) (st : St) (h : RdAt w g st) : Calls Try.prog 40 #[.pointer (some ⟨g, 0, none⟩)] w (RetSp1 g st w) := by
  have hgl := h.lt
  have HF := Lib.hid (show ∀ w', RdAt w' g (rdR textC (rdR textC st)) → Chg g w w' → RetSp1 g st w (.returned (.agg #[.string (strB (rdV textC [] st)), .string (strB (rdV textC [] (rdR textC st)))])) w' from fun w' h1 h2 =>
    ⟨(rdV textC [] st, rdV textC [] (rdR textC st)), rfl, by rw [show rdR recC st = rdR textC (rdR textC st) from rdR_pair textC textC st]; exact h1, h2, fun r hr => (rdV_pair textC textC ([], []) st hr).symm⟩)
  have hal : Below w.heap.size w (w.alloc (.cells #[.string ⟨#[]⟩, .string ⟨#[]⟩] 30)) := (Below.refl _ _).alloc (Nat.le_refl _) _
  have C1 := Lib.hid (text_any _ g st (h.below hal))
  have C2 := Lib.hid (fun w1 h1 => text_any w1 g (rdR textC st) h1)
  have HA := Lib.hid hal
  have HG := Lib.hid hgl
  generalize RetSp1 g st w = R at HF ⊢
  generalize strB (rdV textC [] st) = t1 at HF C1
  generalize strB (rdV textC [] (rdR textC st)) = t2 at HF C2
  generalize rdR textC (rdR textC st) = S2 at HF C2
  generalize rdR textC st = S1 at C1 C2
  clear h hal hgl
  go_enter Try.func40, Try.ntmps40
  go_wp2_with fail
  refine C1.out.mono ?_
  rintro e w1 ⟨rfl, hr1, hc1⟩
  have HC1 := Lib.hid hc1
  have C3 := Lib.hid (C2.out w1 hr1)
  clear hr1 hc1
  go_wp2_with fail
  refine C3.out.mono ?_
  rintro e w2 ⟨rfl, hr2, hc2⟩
  have HC2 := Lib.hid (HC1.out.trans hc2)
  have HB2 := Lib.hid (show w2.heap[w.heap.size]? = some (.cells #[.string ⟨#[]⟩, .string ⟨#[]⟩] 30 (0, 0)) by
    rw [HC2.out.block w.heap.size (by simp) (by have := HG.out; omega)]; exact new_block _ _ _)
  have hz := hr2.lt
  have k0 := cell_at HB2.out 0
  have k1 := frozen_at HB2.out 0
  have h3 := set_at HB2.out 0 (.string t1)
  have k2 := cell_at h3 1
  have k3 := frozen_at h3 1
  have h4 := set_at h3 1 (.string t2)
  have q0 := cell_at h4 0
  have q1 := cell_at h4 1
  have HR := Lib.hid (HF.out ((w2.setCell ⟨w.heap.size, 0, none⟩ (.string t1)).setCell ⟨w.heap.size, 1, none⟩ (.string t2)) ⟨hr2.bd, by
      rw [Below.heap_setCell _ _ _ _ (by have := HG.out; show g ≠ w.heap.size; omega), Below.heap_setCell _ _ _ _ (by have := HG.out; show g ≠ w.heap.size; omega)]; exact hr2.at_⟩
    ⟨HC2.out.os.trans HA.out.os, HC2.out.tape.trans HA.out.tape, HC2.out.output.trans HA.out.output, by have := HC2.out.size; simp [World.setCell] at this ⊢; omega, fun k hk hg => by
      rw [Below.heap_setCell _ _ _ _ (by show k ≠ w.heap.size; omega), Below.heap_setCell _ _ _ _ (by show k ≠ w.heap.size; omega), HC2.out.block k (by simp; omega) hg, HA.out.block k hk]⟩)
  clear hr2 hc2 h3 h4 hz
  go_wp2_with fail
  refine bodyPost_ret (v := .agg #[.string t1, .string t2]) (by simp [results, Try.results40, go_sem, q0, q1]) rfl HR.out

abbrev ShT := RecL × Nat × Nat
def shC : Codec ShT := recC.pair (numC.pair numC)
def sdOf (x : ShT) : Sd := ⟨⟨strB x.1.1, strB x.1.2⟩, x.2.1, x.2.2⟩
def shZ : ShT := (([], []), 0, 0)
theorem sh_seq (st : St) : rdR shC st = rdR numC (rdR numC (rdR recC st)) := by unfold shC; rw [rdR_pair, rdR_pair]
theorem sh_val (st : St) {r : List UInt8} (h : rdR shC st = .ok r) : rdV shC shZ st = (rdV recC ([], []) st, rdV numC 0 (rdR recC st), rdV numC 0 (rdR numC (rdR recC st))) := by
  unfold shC at h ⊢
  rw [rdV_pair _ _ _ _ h]
  rw [rdR_pair] at h
  rw [rdV_pair _ _ _ _ h]
  rfl
theorem recs_le {b r : List UInt8} (h : rdR recC (.ok b) = .ok r) : r.length + 1 ≤ b.length := recs_short h
theorem sh_short {b r : List UInt8} (h : rdR shC (.ok b) = .ok r) : r.length + 1 ≤ b.length := by
  rw [sh_seq] at h
  cases h1 : rdR recC (.ok b) with
  | error e => rw [h1] at h; cases h
  | ok s =>
    have h2 := recs_short h1
    have h3 := rest_num (.ok s)
    have h4 := rest_num (rdR numC (.ok s))
    rw [h1] at h
    rw [h] at h4
    have e1 : (restS (.ok s)).length = s.length := rfl
    have e2 : (restS (.ok r)).length = r.length := rfl
    omega
/-- what takeShard answers. -/
def RetSh1 (gp : Nat) (st : St) (w : World) (e : Ending) (w' : World) : Prop :=
  ∃ y : Sd, e = .returned (valSd y) ∧ RdAt w' gp (rdR shC st) ∧ Chg gp w w' ∧ (∀ r, rdR shC st = .ok r → y = sdOf (rdV shC shZ st))
set_option maxHeartbeats 1000000 in
theorem takeShard_any (w : World) (g : Nat) (st : St) (h : RdAt w g st) : Calls Try.prog 46 #[.pointer (some ⟨g, 0, none⟩)] w (RetSh1 g st w) := by
  have hgl := h.lt
  have HSV := Lib.hid (fun r (hr : rdR shC st = .ok r) => sh_val st hr)
  have HOK := Lib.hid (show ∀ r, rdR shC st = .ok r → ∃ r2, rdR recC st = .ok r2 from fun r hr => by
    rw [sh_seq] at hr
    cases h1 : rdR recC st with
    | ok r2 => exact ⟨r2, rfl⟩
    | error e => rw [h1] at hr; cases hr)
  have HF := Lib.hid (show ∀ (y : RecL) w', (∀ r, rdR recC st = .ok r → y = rdV recC ([], []) st) → RdAt w' g (rdR numC (rdR numC (rdR recC st))) → Chg g w w' → RetSh1 g st w (.returned (.agg #[.string (strB y.1), .string (strB y.2), .int .i64 (rdV numC 0 (rdR recC st) : Nat), .int .i64 (rdV numC 0 (rdR numC (rdR recC st)) : Nat)])) w' from fun y w' hy h1 h2 =>
    ⟨⟨⟨strB y.1, strB y.2⟩, (rdV numC 0 (rdR recC st) : Nat), (rdV numC 0 (rdR numC (rdR recC st)) : Nat)⟩, rfl, by rw [sh_seq]; exact h1, h2, fun r hr => by
      rw [HSV.out r hr]
      obtain ⟨r2, h3⟩ := HOK.out r hr
      rw [hy r2 h3]; rfl⟩)
  have hal : Below w.heap.size w (w.alloc (.cells #[.string ⟨#[]⟩, .string ⟨#[]⟩, .int .i64 0, .int .i64 0] 68)) := (Below.refl _ _).alloc (Nat.le_refl _) _
  have C1 := Lib.hid (takeSpan_any _ g st (h.below hal))
  have C2 := Lib.hid (fun w1 h1 => pcNumber_any w1 g (rdR recC st) h1)
  have C3 := Lib.hid (fun w1 h1 => pcNumber_any w1 g (rdR numC (rdR recC st)) h1)
  have HA := Lib.hid hal
  have HG := Lib.hid hgl
  unfold RetSp1 at C1
  generalize rdV numC 0 (rdR numC (rdR recC st)) = n2 at HF C3
  generalize rdV numC 0 (rdR recC st) = n1 at HF C2
  generalize rdR numC (rdR numC (rdR recC st)) = S3 at HF C3
  generalize rdR numC (rdR recC st) = S2 at C2 C3
  clear h hal hgl HSV HOK
  go_enter Try.func46, Try.ntmps46
  go_wp2_with fail
  refine C1.out.mono ?_
  rintro e w1 ⟨y, rfl, hr1, hc1, hy⟩
  have HC1 := Lib.hid hc1
  have HY := Lib.hid hy
  have C4 := Lib.hid (C2.out w1 hr1)
  clear hr1 hc1 hy
  go_wp2_with fail
  refine C4.out.mono ?_
  rintro e w2 ⟨rfl, hr2, hc2⟩
  have HC2 := Lib.hid (HC1.out.trans hc2)
  have C5 := Lib.hid (C3.out w2 hr2)
  clear hr2 hc2
  go_wp2_with fail
  refine C5.out.mono ?_
  rintro e w3 ⟨rfl, hr3, hc3⟩
  have HC3 := Lib.hid (HC2.out.trans hc3)
  obtain ⟨Y, hY⟩ : ∃ Y, y = Y := ⟨_, rfl⟩
  have HB3 := Lib.hid (show w3.heap[w.heap.size]? = some (.cells #[.string ⟨#[]⟩, .string ⟨#[]⟩, .int .i64 0, .int .i64 0] 68 (0, 0)) by
    rw [HC3.out.block w.heap.size (by simp) (by have := HG.out; omega)]; exact new_block _ _ _)
  have hz := hr3.lt
  have hFY := HF.out y
  generalize strB y.1 = t1 at hFY ⊢
  generalize strB y.2 = t2 at hFY ⊢
  have k0 := cell_at HB3.out 0
  have k1 := frozen_at HB3.out 0
  have h3 := set_at HB3.out 0 (.string t1)
  have k2 := cell_at h3 1
  have k3 := frozen_at h3 1
  have h4 := set_at h3 1 (.string t2)
  have k4 := cell_at h4 2
  have k5 := frozen_at h4 2
  have h5 := set_at h4 2 (.int .i64 (n1 : Nat))
  have k6 := cell_at h5 3
  have k7 := frozen_at h5 3
  have h6 := set_at h5 3 (.int .i64 (n2 : Nat))
  have q0 := cell_at h6 0
  have q1 := cell_at h6 1
  have q2 := cell_at h6 2
  have q3 := cell_at h6 3
  have HR := Lib.hid (hFY ((((w3.setCell ⟨w.heap.size, 0, none⟩ (.string t1)).setCell ⟨w.heap.size, 1, none⟩ (.string t2)).setCell ⟨w.heap.size, 2, none⟩ (.int .i64 (n1 : Nat))).setCell ⟨w.heap.size, 3, none⟩ (.int .i64 (n2 : Nat))) HY.out ⟨hr3.bd, by
      rw [Below.heap_setCell _ _ _ _ (by have := HG.out; show g ≠ w.heap.size; omega), Below.heap_setCell _ _ _ _ (by have := HG.out; show g ≠ w.heap.size; omega), Below.heap_setCell _ _ _ _ (by have := HG.out; show g ≠ w.heap.size; omega), Below.heap_setCell _ _ _ _ (by have := HG.out; show g ≠ w.heap.size; omega)]; exact hr3.at_⟩
    ⟨HC3.out.os.trans HA.out.os, HC3.out.tape.trans HA.out.tape, HC3.out.output.trans HA.out.output, by have := HC3.out.size; simp [World.setCell] at this ⊢; omega, fun k hk hg => by
      rw [Below.heap_setCell _ _ _ _ (by show k ≠ w.heap.size; omega), Below.heap_setCell _ _ _ _ (by show k ≠ w.heap.size; omega), Below.heap_setCell _ _ _ _ (by show k ≠ w.heap.size; omega), Below.heap_setCell _ _ _ _ (by show k ≠ w.heap.size; omega), HC3.out.block k (by simp; omega) hg, HA.out.block k hk]⟩)
  clear hr3 hc3 h3 h4 h5 h6 hz hY hFY
  go_wp2_with fail
  refine bodyPost_ret (v := .agg #[.string t1, .string t2, .int .i64 (n1 : Nat), .int .i64 (n2 : Nat)]) (by simp [results, Try.results46, go_sem, q0, q1, q2, q3]) rfl HR.out

abbrev OwnSd (w : World) (B : Nat) (v : Value) (L : List Sd) : Prop := OwnK KS w B 68 v L
theorem KeptF.of_chg {g : Nat} {w w' : World} (h : Chg g w w') : KeptF (fun k => k = g) w w' := ⟨h.os, h.tape, h.output, h.size, h.block⟩
/-- what ReadItems answers at Shard. -/
def RetItShard (w : World) (gp : Nat) (st : St) (e : Ending) (w' : World) : Prop :=
  ∃ v ys, e = .returned v ∧ OwnSd w' w.heap.size v ys ∧ RdAt w' gp (rdR (Codec.list shC) st) ∧ Chg gp w w' ∧ (∀ r, rdR (Codec.list shC) st = .ok r → ys.map (fun y : Sd => y) = (rdV (Codec.list shC) [] st).map sdOf) ∧ True
structure RiShard (w : World) (gp : Nat) (F : St) (L : List Sd) (N : Nat) (v : Value) (m : Nat) (wr : World) (s : St) (ys : List Sd) : Prop where
  own : OwnSd wr w.heap.size v ys
  rd : RdAt wr gp s
  ch : Chg gp w wr
  pu : ItI shC shZ (fun y : Sd => y) sdOf F L N m s ys
  ins : True

set_option maxHeartbeats 4000000 in
theorem readItemsShard {g : FuncId} {lb : Array Value} (eg : ∀ args w, (callFunc g args).run Try.prog w = .ok (.enter g args) w) (w : World) (gp : Nat) (st : St) (h : RdAt w gp st) (hl : (restS st).length ≤ 99999999)
    (hC : ∀ b r, rdR shC (.ok b) = .ok r → r.length + 1 ≤ b.length)
    (hone : ∀ w1 b, Chg gp w w1 → RdAt w1 gp (.ok b) → b.length ≤ (restS st).length → Calls Try.prog g (#[.pointer (some ⟨gp, 0, none⟩)] ++ lb) w1 (RetSh1 gp (.ok b) w1)) :
    Calls Try.prog 45 #[.pointer (some ⟨gp, 0, none⟩), .func (.func g) #[] lb] w (RetItShard w gp st) := by
  have hfn : ∀ w : World, (binOp .eql 96 (.func (.func g) #[] lb) .nilFunc).run Try.prog w = .ok (.bool false) w := fun _ => by kernel_rfl
  have hgl := h.lt
  have HF := Lib.hid (show ∀ v ys w', OwnSd w' w.heap.size v ys → RdAt w' gp (rdR (Codec.list shC) st) → Chg gp w w' → (∀ r, rdR (Codec.list shC) st = .ok r → ys.map (fun y : Sd => y) = (rdV (Codec.list shC) [] st).map sdOf) → True → RetItShard w gp st (.returned v) w' from fun v ys w' h1 h2 h3 h4 h5 => ⟨v, ys, rfl, h1, h2, h3, h4, h5⟩)
  have CN := Lib.hid (pcNumber_any w gp st h)
  obtain ⟨n, hn⟩ : ∃ n, rdV numC 0 st = n := ⟨_, rfl⟩
  obtain ⟨S, hS1⟩ : ∃ S, rdR numC st = S := ⟨_, rfl⟩
  obtain ⟨N, hN⟩ : ∃ N, (restS st).length = N := ⟨_, rfl⟩
  have hst := ItI.start (C := shC) (d := shZ) (g := (fun y : Sd => y)) (h := sdOf) (N := N) hn hS1 (by rw [← hS1, ← hN]; exact rest_num st)
  have hnb : n ≤ 268435455 := hn ▸ rdV_num_le st
  have HERR := Lib.hid (show ∀ e0, S = .error e0 → rdR (Codec.list shC) st = .error e0 from fun e0 he => by
    obtain ⟨h1, _⟩ := list_seq shC shZ st
    rw [h1, hS1, he]; exact iterR_err _ _ _)
  obtain ⟨F, hF⟩ : ∃ F, rdR (Codec.list shC) st = F := ⟨_, rfl⟩
  obtain ⟨L, hL⟩ : ∃ L, (rdV (Codec.list shC) [] st).map sdOf = L := ⟨_, rfl⟩
  rw [hF, hL] at HF hst
  rw [hF] at HERR
  rw [hn, hS1] at CN
  rw [hN] at hl
  have HST := Lib.hid hst
  have HONE := Lib.hid (hN ▸ hone)
  have HC := Lib.hid hC
  have HNL := Lib.hid hl
  have HG := Lib.hid hgl
  clear h hst hF hL hN hn hS1 hone hC hl hgl
  go_enter Try.func45, Try.ntmps45
  go_wp2_with fail
  refine CN.out.mono ?_
  rintro e w1 ⟨rfl, hr1, hc1⟩
  have hat1 := hr1.at_
  have c1 := cell_at hat1 1
  clear hat1
  have HR1 := Lib.hid hr1
  have HC1 := Lib.hid hc1
  clear hr1 hc1 CN
  cases S with
  | error e0 =>
    have h0 := HR1.out.bd e0 rfl
    have h0z : ((e0 : Int) != 0) = true := by simp; omega
    simp only [errS] at c1
    have HP := Lib.hid (HF.out (.slice none 0 0) [] w1 (OwnK.nil _ _ _ _) (by rw [HERR.out e0 rfl]; exact HR1.out) HC1.out (fun r hr => by rw [HERR.out e0 rfl] at hr; cases hr) trivial)
    clear h0
    go_wp2_with fail
    go_ret
    exact HP.out
  | ok b0 =>
    simp only [errS] at c1
    have HI := Lib.hid (show RiShard w gp F L N (.slice none 0 0) n w1 (.ok b0) [] from ⟨OwnK.nil _ _ _ _, HR1.out, HC1.out, HST.out, trivial⟩)
    clear HERR HST HR1 HC1
    go_wp2_with fail
    clear c1
    go_loopw [5, 6] (fun i v wr => ∃ (m : Nat) (s : St) (ys : List Sd), i = .int .i64 m ∧ m ≤ 268435455 ∧ Hid (RiShard w gp F L N v m wr s ys)) (fun i _ _ => (RowKit.intOf i).toNat)
    case atStart => exact ⟨n, .ok b0, [], rfl, hnb, HI⟩
    case round =>
      obtain ⟨m, s, ys, rfl, hmb, HR⟩ := hrel
      have hat := HR.out.rd.at_
      have c1 := cell_at hat 1
      clear hat
      cases s with
      | error e0 =>
        have h0 := HR.out.rd.bd e0 rfl
        have h0z : ((e0 : Int) == 0) = false := by simp; omega
        have h0y : ((e0 : Int) != 0) = true := by simp; omega
        simp only [errS] at c1
        have HP := Lib.hid (HF.out (.slice none 0 0) [] wr (OwnK.nil _ _ _ _) (by rw [HR.out.pu.err]; exact HR.out.rd) HR.out.ch (fun r hr => by rw [HR.out.pu.err] at hr; cases hr) trivial)
        clear h0
        by_cases hm : m = 0
        · subst hm
          go_wp2_with fail
          go_ret
          exact HP.out
        · have hmz : decide ((m : Int) > 0) = true := by simp; omega
          go_wp2_with fail
          go_ret
          exact HP.out
      | ok b =>
        simp only [errS] at c1
        by_cases hm : m = 0
        · subst hm
          have HP := Lib.hid (HF.out _ ys wr HR.out.own (HR.out.pu.done.1 ▸ HR.out.rd) HR.out.ch HR.out.pu.done.2 trivial)
          obtain ⟨q, d, rfl, -⟩ := HR.out.own.row
          go_wp2_with fail
          go_ret
          exact HP.out
        · have hmz : decide ((m : Int) > 0) = true := by simp; omega
          obtain ⟨m', rfl⟩ : ∃ m', m = m' + 1 := ⟨m - 1, by omega⟩
          have C1 := Lib.hid (HONE.out wr b HR.out.ch HR.out.rd (by have := HR.out.pu.lt ⟨b, rfl⟩; have e : (restS (.ok b)).length = b.length := rfl; omega))
          obtain ⟨q, d, rfl, -⟩ := HR.out.own.row
          have hls : ys.length ≤ 99999999 := by have := HR.out.pu.lt ⟨b, rfl⟩; have := HNL.out; omega
          have hls1 : ys.length + 1 ≤ 100000001 := by omega
          have HLS := Lib.hid hls
          clear hls1 hm
          obtain ⟨k, hk⟩ : ∃ k, ys.length = k := ⟨_, rfl⟩
          have HOW := Lib.hid (hk ▸ HR.out.own)
          rw [hk]
          have HK := Lib.hid hk
          clear hk hls
          go_wp2_with fail
          refine C1.out.mono ?_
          rintro e w3 ⟨y, rfl, hr3, hc3, hv3⟩
          have HC3 := Lib.hid (HR.out.ch.trans hc3)
          have HR3 := Lib.hid hr3
          have HO3 := Lib.hid (HOW.out.kept (KeptF.of_chg hc3) fun b hb hg => by have := (HOW.out.ltB b hb).1; have := HG.out; omega)
          have HV3 := Lib.hid hv3
          have HZ := Lib.hid (show w.heap.size ≤ w3.heap.size from HC3.out.size)
          have HAL := Lib.hid (show Below w3.heap.size w3 (w3.alloc (.cells #[.string y.sp.f, .string y.sp.t, .int .i64 y.n, .int .i64 y.e] 68)) from (Below.refl _ _).alloc (Nat.le_refl _) _)
          have hsz4 : w.heap.size ≤ (w3.alloc (.cells #[.string y.sp.f, .string y.sp.t, .int .i64 y.n, .int .i64 y.e] 68)).heap.size := by rw [World.size_alloc]; have := HZ.out; omega
          have hls4 : ys.length + [y].length ≤ 100000000 := by have := HLS.out; simp only [List.length_singleton]; omega
          have ho4 := HO3.out.alloc (.cells #[.string y.sp.f, .string y.sp.t, .int .i64 y.n, .int .i64 y.e] 68)
          have hrow4 : RowK KS (w3.alloc (.cells #[.string y.sp.f, .string y.sp.t, .int .i64 y.n, .int .i64 y.e] 68)) (some ⟨w3.heap.size, 0, none⟩) [y] := RowK.block KS (L := [y]) (new_block w3 _ _)
          unfold valSd
          clear hr3 hc3 hv3
          go_wp2_with (at_builtin; refine wpList_app_k skt_atlas rfl _ _ rfl rfl ho4 (some ⟨w3.heap.size, 0, none⟩) 1 [y] rfl hrow4 (fun h => by cases h) hls4 hsz4 ?_)
          intro v4 w4 hown4 hgrow _
          clear ho4 hrow4
          have HI4 := Lib.hid (show RiShard w gp F L N v4 m' w4 (rdR shC (.ok b)) (ys ++ [y]) from by
            have hne : some gp ≠ (Value.slice q k d).ownBlock := fun e => by
              have := (fun b hb => (HO3.out.ltB b hb).1) gp e.symm
              have := HG.out
              omega
            exact ⟨hown4, (HR3.out.below HAL.out).grown hgrow hne, Chg.grown hgrow (HC3.out.trans (Chg.of_below HAL.out)) (fun b hb => (fun b hb => (HO3.out.ltB b hb).1) b hb), HR.out.pu.step (HC.out b) HV3.out, trivial⟩)
          clear hown4 hgrow
          go_wp2_with fail
          go_roundw
          case rel => exact ⟨m', _, _, by go_num, by omega, HI4⟩
          case measure => simp [RowKit.intOf]
end Go.Proofs.Ytbhojddakmgdmaa
namespace Go.Proofs.Ytbhojddakmgdmaa
open Go.RowKit Go.Maps

section
variable {α : Type} {key : α → Int} {x : α} {L : List α}
def putK (key : α → Int) (x : α) : List α → List α
  | [] => [x]
  | y :: t => if key y < key x then y :: putK key x t else if key y = key x then x :: t else x :: y :: t
def findK (key : α → Int) (c : Int) (L : List α) : Option α := L.find? (fun y => decide (key y = c))
def OrdK (key : α → Int) (L : List α) : Prop := L.Pairwise (fun a b => key a < key b)

theorem mem_putK {e : α} : ∀ {L : List α}, e ∈ putK key x L → e = x ∨ e ∈ L
  | [], h => by simpa [putK] using h
  | y :: t, h => by
    unfold putK at h
    split at h
    · rcases List.mem_cons.1 h with h | h
      · exact Or.inr (by simp [h])
      · rcases mem_putK h with h | h
        · exact Or.inl h
        · exact Or.inr (by simp [h])
    · split at h
      · rcases List.mem_cons.1 h with h | h
        · exact Or.inl h
        · exact Or.inr (by simp [h])
      · rcases List.mem_cons.1 h with h | h
        · exact Or.inl h
        · exact Or.inr h
theorem self_putK : ∀ {L : List α}, x ∈ putK key x L
  | [] => by simp [putK]
  | y :: t => by
    unfold putK
    split
    · exact List.mem_cons_of_mem _ self_putK
    · split <;> simp
theorem ord_putK : ∀ {L : List α}, OrdK key L → OrdK key (putK key x L)
  | [], _ => by simp [putK, OrdK]
  | y :: t, h => by
    obtain ⟨h1, h2⟩ := List.pairwise_cons.1 h
    unfold putK
    split
    · rename_i hlt
      refine List.pairwise_cons.2 ⟨fun e he => ?_, ord_putK h2⟩
      rcases mem_putK he with rfl | he
      · exact hlt
      · exact h1 e he
    · split
      · rename_i heq
        exact List.pairwise_cons.2 ⟨fun e he => by rw [← heq]; exact h1 e he, h2⟩
      · rename_i hn he
        refine List.pairwise_cons.2 ⟨fun e hm => ?_, h⟩
        rcases List.mem_cons.1 hm with rfl | hm
        · omega
        · have := h1 e hm; omega
theorem length_putK : ∀ {L : List α}, (putK key x L).length ≤ L.length + 1
  | [] => by simp [putK]
  | y :: t => by
    unfold putK
    split
    · simpa using length_putK (L := t)
    · split <;> simp
theorem findK_none {c : Int} (h : ∀ e ∈ L, key e ≠ c) : findK key c L = none := List.find?_eq_none.2 fun e he => by simpa using h e he
theorem findK_cons (c : Int) (y : α) (t : List α) : findK key c (y :: t) = if key y = c then some y else findK key c t := by
  unfold findK
  rw [List.find?_cons]
  by_cases h : key y = c <;> simp [h]
theorem findK_putK {c : Int} : ∀ {L : List α}, OrdK key L → findK key c (putK key x L) = if key x = c then some x else findK key c L
  | [], _ => by rw [putK, findK_cons]
  | y :: t, h => by
    obtain ⟨h1, h2⟩ := List.pairwise_cons.1 h
    unfold putK
    split
    · rw [findK_cons, findK_putK h2, findK_cons]
      by_cases ha : key y = c
      · rw [if_pos ha, if_neg (by omega), if_pos ha]
      · rw [if_neg ha, if_neg ha]
    · split
      · rw [findK_cons, findK_cons]
        by_cases ha : key x = c
        · rw [if_pos ha, if_pos ha]
        · rw [if_neg ha, if_neg ha, if_neg (by omega)]
      · rw [findK_cons]
theorem findK_mem {c : Int} {e : α} (h : findK key c L = some e) : e ∈ L ∧ key e = c :=
  ⟨List.mem_of_find?_eq_some h, by have := List.find?_some h; simpa using this⟩
theorem findK_of_mem {e : α} : ∀ {L : List α}, OrdK key L → e ∈ L → findK key (key e) L = some e
  | y :: t, h, hm => by
    obtain ⟨h1, h2⟩ := List.pairwise_cons.1 h
    rw [findK_cons]
    rcases List.mem_cons.1 hm with rfl | hm
    · rw [if_pos rfl]
    · rw [if_neg (by have := h1 e hm; omega)]
      exact findK_of_mem h2 hm
/-- sorted lists that find the same are the same. -/
theorem ordK_ext : ∀ {L L' : List α}, OrdK key L → OrdK key L' → (∀ c, findK key c L = findK key c L') → L = L'
  | [], [], _, _, _ => rfl
  | [], y :: t, _, _, h => by have := h (key y); rw [findK_cons, if_pos rfl] at this; cases this
  | y :: t, [], _, _, h => by have := h (key y); rw [findK_cons, if_pos rfl] at this; cases this
  | y :: t, z :: u, ha, hb, h => by
    obtain ⟨a1, a2⟩ := List.pairwise_cons.1 ha
    obtain ⟨b1, b2⟩ := List.pairwise_cons.1 hb
    have hyz : y = z := by
      have h1 := h (key y)
      rw [findK_cons, if_pos rfl, findK_cons] at h1
      split at h1
      · exact Option.some.inj h1
      · have hm := (findK_mem h1.symm).1
        have h2 := h (key z)
        rw [findK_cons, findK_cons, if_pos rfl] at h2
        split at h2
        · exact Option.some.inj h2
        · have hm2 := (findK_mem h2).1
          have := a1 z hm2
          have := b1 y hm
          omega
    subst hyz
    congr 1
    refine ordK_ext a2 b2 fun c => ?_
    have hc := h c
    rw [findK_cons, findK_cons] at hc
    by_cases he : key y = c
    · rw [findK_none fun e hm => by have := a1 e hm; omega, findK_none fun e hm => by have := b1 e hm; omega]
    · rwa [if_neg he, if_neg he] at hc
theorem map_putK {β : Type} {key' : β → Int} (f : α → β) (hf : ∀ a, key' (f a) = key a) : ∀ {L : List α}, (putK key x L).map f = putK key' (f x) (L.map f)
  | [] => rfl
  | y :: t => by
    simp only [List.map_cons]
    unfold putK
    rw [hf, hf]
    split
    · rw [List.map_cons, map_putK f hf]
    · split <;> simp
theorem map_findK {β : Type} {key' : β → Int} (f : α → β) (hf : ∀ a, key' (f a) = key a) (c : Int) : ∀ {L : List α}, findK key' c (L.map f) = (findK key c L).map f
  | [] => rfl
  | y :: t => by
    rw [List.map_cons, findK_cons, findK_cons, hf]
    split
    · rfl
    · exact map_findK f hf c
theorem ordK_map {β : Type} {key' : β → Int} (f : α → β) (hf : ∀ a, key' (f a) = key a) : OrdK key' (L.map f) ↔ OrdK key L := by
  unfold OrdK
  rw [List.pairwise_map]
  simp only [hf]

/-- the map's datum of a sorted list. -/
def mapOf (key : α → Int) (val : α → Value) (L : List α) : DataW Value := .map (L.map fun e => (Lit.int .i64 (key e), .held (val e)))
def heldR : Value → Option (DataW Value × List MemPlace) := fun v => some (.held v, [])
variable {val : α → Value}

theorem sameKey_int (a b : Int) : (Lit.int .i64 a).sameKey (Lit.int .i64 b) = decide (a = b) := by simp [Lit.sameKey]
theorem has_mapOf (c : Int) : has (mapOf key val L) (.int .i64 c) = (findK key c L).isSome := by
  unfold mapOf
  rw [has_eq, List.any_map]
  induction L with
  | nil => rfl
  | cons y t ih =>
    rw [List.any_cons, ih, findK_cons]
    simp only [Function.comp, sameKey_int]
    by_cases h : key y = c <;> simp [h]
theorem atKey_mapOf (c : Int) (z : Value) : (mapOf key val L).atKey (.int .i64 c) (.held z) = .held (((findK key c L).map val).getD z) := by
  unfold mapOf DataW.atKey
  simp only
  induction L with
  | nil => rfl
  | cons y t ih =>
    rw [List.map_cons, List.find?_cons, findK_cons]
    simp only [sameKey_int]
    by_cases h : key y = c
    · simp [h]
    · simp only [h, decide_false, if_false]
      exact ih
theorem size_mapOf : size (mapOf key val L) = L.length := by simp [mapOf, size]
theorem intKeys_mapOf : intKeys (mapOf key val L) = L.map key := by
  show (L.map fun e => (Lit.int .i64 (key e), DataW.held (val e))).map (fun p => intOf p.1) = _
  rw [List.map_map]
  rfl
theorem sort_keys {ss : List Int} (h : ss.Perm (L.map key)) (ho : OrdK key L) : ss.mergeSort (fun x y => decide (x ≤ y)) = L.map key := by
  have h1 := mergeSort_of_perm_i h
  rw [show ss.mergeSort (fun x y => decide (x ≤ y)) = ss.mergeSort leI from rfl, h1]
  exact List.mergeSort_of_pairwise ((List.pairwise_map.2 (List.Pairwise.imp (fun {a b} hab => by simp only [leI, decide_eq_true_eq]; omega) ho)))
theorem filter_above : ∀ {L : List α}, (∀ e ∈ L, key x < key e) → (L.map fun e => (Lit.int .i64 (key e), DataW.held (val e))).filter (fun p => !p.1.sameKey (.int .i64 (key x))) = L.map fun e => (Lit.int .i64 (key e), DataW.held (val e)) := by
  intro L h
  refine List.filter_eq_self.2 fun p hp => ?_
  obtain ⟨e, he, rfl⟩ := List.mem_map.1 hp
  have := h e he
  simp only [sameKey_int, Bool.not_eq_true', decide_eq_false_iff_not]
  omega
theorem insert_above : ∀ {L : List α}, (∀ e ∈ L, key x < key e) → DataW.insert (Lit.int .i64 (key x), DataW.held (val x)) (L.map fun e => (Lit.int .i64 (key e), DataW.held (val e))) = (x :: L).map fun e => (Lit.int .i64 (key e), DataW.held (val e))
  | [], _ => rfl
  | y :: t, h => by
    have := h y (by simp)
    simp only [List.map_cons]
    unfold DataW.insert
    rw [if_pos (by simp only [Lit.before, decide_eq_true_eq]; exact this)]
theorem put_mapOf (ho : OrdK key L) : (mapOf key val L).put (.int .i64 (key x)) (.held (val x)) = mapOf key val (putK key x L) := by
  unfold mapOf DataW.put
  simp only
  congr 1
  induction L with
  | nil => rfl
  | cons y t ih =>
    obtain ⟨h1, h2⟩ := List.pairwise_cons.1 ho
    rw [List.map_cons, List.filter_cons]
    simp only [sameKey_int]
    unfold putK
    by_cases hlt : key y < key x
    · rw [if_pos (by simp; omega), if_pos hlt]
      unfold DataW.insert
      rw [if_neg (by simp only [Lit.before, decide_eq_true_eq]; omega), List.map_cons]
      congr 1
      exact ih h2
    · rw [if_neg hlt]
      by_cases heq : key y = key x
      · rw [if_neg (by simp [heq]), if_pos heq, filter_above fun e he => by rw [← heq]; exact h1 e he]
        exact insert_above fun e he => by rw [← heq]; exact h1 e he
      · rw [if_pos (by simp [heq]), if_neg heq, filter_above fun e he => by have := h1 e he; omega]
        exact insert_above (L := y :: t) fun e he => by
          rcases List.mem_cons.1 he with rfl | he
          · omega
          · have := h1 e he; omega

/-- block b of w is a map that holds the list. -/
structure IMap (P : Program) (k : TypeId) (key : α → Int) (val : α → Value) (w : World) (b : Nat) (L : List α) : Prop where
  own : w.ownsMap P k heldR b L.length (mapOf key val L)
  ord : OrdK key L
variable {P : Program} {k : TypeId} {w w' : World} {b : Nat}
theorem IMap.lt (h : IMap P k key val w b L) : b < w.heap.size := h.own.lt
theorem IMap.made (w : World) : IMap P k key val (w.alloc (.map #[] 0)) w.heap.size [] := ⟨World.ownsMap_made w P k heldR, List.Pairwise.nil⟩
theorem IMap.block (h : IMap P k key val w b L) (hb : w'.heap[b]? = w.heap[b]?) : IMap P k key val w' b L := by
  obtain ⟨⟨es, clock, hh, r⟩, ho⟩ := h
  exact ⟨⟨es, clock, hb.trans hh, r⟩, ho⟩
theorem IMap.obj (h : IMap P k key val w b L) : ∃ es clock, w.heap[b]? = some (.map es clock) := by
  obtain ⟨⟨es, clock, hh, r⟩, ho⟩ := h
  exact ⟨es, clock, hh⟩
/-- a store. -/
theorem IMap.store {t e : TypeId} (h : IMap P k key val w b L) (hk : P.underlying k = some (.int .i64)) (ht : P.underlying t = some (.map k e)) (hn : L.length < maxLen) (x : α) (hx : (Lit.int .i64 (key x)).wf = true) :
    ∃ w', (Instr.mapUpdate t (.map (some b)) (.int .i64 (key x)) (val x)).run P w = .ok () w' ∧ IMap P k key val w' b (putK key x L) ∧ w.grownBy w' (some b) := by
  obtain ⟨w', hrun, hown, hg⟩ := h.own.update (int_keyed hk) ht hn (keyOf_int_mk hk hx) (R := heldR) (val := val x) (d := .held (val x)) (ps := []) rfl
  refine ⟨w', hrun, ⟨?_, ord_putK h.ord⟩, hg⟩
  rw [put_mapOf h.ord] at hown
  obtain ⟨es, clock, hb, F, _, hD⟩ := hown
  refine ⟨es, clock, hb, F, ?_, hD⟩
  have e1 := congrArg size hD
  rw [size_mapOf] at e1
  rw [e1]
  simp [size, length_sorted]
/-- a look. -/
theorem IMap.look_ok {t e : TypeId} (h : IMap P k key val w b L) (hk : P.underlying k = some (.int .i64)) (ht : P.underlying t = some (.map k e)) {z : Value} (hz : (zeroValue e).run P w = .ok z w) (c : Int) (hc : (Lit.int .i64 c).wf = true) :
    (Instr.lookup t (.map (some b)) (.int .i64 c) true).run P w = .ok (.tuple #[((findK key c L).map val).getD z, .bool (findK key c L).isSome]) w := by
  obtain ⟨v, ps, hrun, hv⟩ := h.own.look_ok (int_keyed hk) ht hz (zd := .held z) (zp := []) rfl (keyOf_int_mk hk hc)
  rw [has_mapOf] at hrun
  rw [atKey_mapOf] at hv
  simp only [heldR, Option.some.injEq, Prod.mk.injEq, DataW.held.injEq] at hv
  rw [hrun, hv.1]
theorem IMap.look {t e : TypeId} (h : IMap P k key val w b L) (hk : P.underlying k = some (.int .i64)) (ht : P.underlying t = some (.map k e)) {z : Value} (hz : (zeroValue e).run P w = .ok z w) (c : Int) (hc : (Lit.int .i64 c).wf = true) :
    (Instr.lookup t (.map (some b)) (.int .i64 c) false).run P w = .ok (((findK key c L).map val).getD z) w := by
  obtain ⟨v, ps, hrun, hv⟩ := h.own.lookup (int_keyed hk) ht hz (zd := .held z) (zp := []) rfl (keyOf_int_mk hk hc)
  rw [atKey_mapOf] at hv
  simp only [heldR, Option.some.injEq, Prod.mk.injEq, DataW.held.injEq] at hv
  rw [hrun, hv.1]
end
end Go.Proofs.Ytbhojddakmgdmaa
namespace Go.Proofs.Ytbhojddakmgdmaa
open Go.RowKit

/-- an entry: the number, the reply, where its records lie. -/
structure Ent where
  s : Int
  r : RepL
  p : Option Addr
  k : Nat
instance : Inhabited RepL := ⟨⟨0, 0, 0, false, [], [], [], false⟩⟩
instance : Inhabited Ent := ⟨⟨0, default, none, 0⟩⟩
def Ent.list (e : Ent) : List Value := [.int .i64 e.s, .int .i64 e.r.c, .int .i64 e.r.s, .int .i64 e.r.e, .bool e.r.fd, .string (strB e.r.v), .slice e.p e.r.ls.length e.k, .string (strB e.r.nx), .bool e.r.mr]
def Ent.val (e : Ent) : Value := .agg #[.int .i64 e.s, .int .i64 e.r.c, .int .i64 e.r.s, .int .i64 e.r.e, .bool e.r.fd, .string (strB e.r.v), .slice e.p e.r.ls.length e.k, .string (strB e.r.nx), .bool e.r.mr]
def ck (e : Ent) : Int := e.r.c
/-- what is told of an entry, but for where its records lie. -/
def Ent.sem (e : Ent) : Int × RepL := (e.s, e.r)
def sk (x : Int × RepL) : Int := x.2.c

section
variable {α : Type} [Inhabited α] {key : α → Int} {x : α} {L : List α} {c : Int} {k : Nat}
/-- the first place from which keys are not below c. -/
structure IdxAt (key : α → Int) (L : List α) (c : Int) (k : Nat) : Prop where
  le : k ≤ L.length
  lo : ∀ j, j < k → key (L.getD j default) < c
  hi : k < L.length → c ≤ key (L.getD k default)
theorem IdxAt.tail {y : α} {t : List α} {k : Nat} (h : IdxAt key (y :: t) c (k + 1)) : IdxAt key t c k :=
  ⟨by have := h.le; simpa using this, fun j hj => by have := h.lo (j + 1) (by omega); simpa using this, fun hk => by have := h.hi (by simpa using hk); simpa using this⟩
theorem IdxAt.find (h : IdxAt key L c k) (ho : OrdK key L) : findK key c L = if k < L.length ∧ key (L.getD k default) = c then some (L.getD k default) else none := by
  induction L generalizing k with
  | nil => simp [findK]
  | cons y t ih =>
    obtain ⟨h1, h2⟩ := List.pairwise_cons.1 ho
    rw [findK_cons]
    cases k with
    | zero =>
      have hh := h.hi (by simp)
      simp only [List.getD_cons_zero] at hh ⊢
      by_cases he : key y = c
      · rw [if_pos he, if_pos ⟨by simp, he⟩]
      · rw [if_neg he, if_neg (fun a => he a.2), findK_none fun e he' => by have := h1 e he'; omega]
    | succ k =>
      have := h.lo 0 (by omega)
      simp only [List.getD_cons_zero] at this
      rw [if_neg (by omega), ih h.tail h2]
      simp
theorem IdxAt.put (h : IdxAt key L (key x) k) (ho : OrdK key L) : putK key x L = L.take k ++ x :: L.drop (if k < L.length ∧ key (L.getD k default) = key x then k + 1 else k) := by
  induction L generalizing k with
  | nil =>
    have := h.le
    simp at this
    subst this
    simp [putK]
  | cons y t ih =>
    obtain ⟨h1, h2⟩ := List.pairwise_cons.1 ho
    cases k with
    | zero =>
      have hh := h.hi (by simp)
      simp only [List.getD_cons_zero] at hh ⊢
      unfold putK
      rw [if_neg (by omega)]
      by_cases he : key y = key x
      · rw [if_pos he, if_pos ⟨by simp, he⟩]; simp
      · rw [if_neg he, if_neg (fun a => he a.2)]; simp
    | succ k =>
      have := h.lo 0 (by omega)
      simp only [List.getD_cons_zero] at this
      unfold putK
      rw [if_pos this, ih h.tail h2]
      simp only [List.take_succ_cons, List.cons_append, List.length_cons, Nat.add_lt_add_iff_right, List.getD_cons_succ]
      split <;> simp
end

/-- is an answer new? -/
def newB (L : List Ent) (r : RepL) : Bool := decide (0 ≤ r.s) && (match findK ck r.c L with | none => true | some y => decide (y.s < r.s))
def noteE (L : List Ent) (x : Ent) : List Ent := if newB L x.r then putK ck x L else L
def newS (L : List (Int × RepL)) (r : RepL) : Bool := decide (0 ≤ r.s) && (match findK sk r.c L with | none => true | some y => decide (y.1 < r.s))
def noteS (L : List (Int × RepL)) (r : RepL) : List (Int × RepL) := if newS L r then putK sk (r.s, r) L else L
def grtB (L : List Ent) (x : Ent) : Bool := match findK ck x.r.c L with | none => true | some y => decide (y.s < x.s)
def mergeE (L : List Ent) (x : Ent) : List Ent := if grtB L x then putK ck x L else L
def semL (L : List Ent) : List (Int × RepL) := L.map Ent.sem
theorem sem_key (e : Ent) : sk e.sem = ck e := rfl
theorem sem_length {L M : List Ent} (h : semL L = semL M) : L.length = M.length := by
  have := congrArg List.length h
  simpa [semL] using this
theorem find_sem (c : Int) (L : List Ent) : findK sk c (semL L) = (findK ck c L).map Ent.sem := map_findK Ent.sem sem_key c
theorem put_sem (x : Ent) (L : List Ent) : semL (putK ck x L) = putK sk x.sem (semL L) := map_putK Ent.sem sem_key
theorem ord_sem {L : List Ent} : OrdK sk (semL L) ↔ OrdK ck L := ordK_map Ent.sem sem_key
theorem newB_sem (L : List Ent) (r : RepL) : newB L r = newS (semL L) r := by
  unfold newB newS
  rw [find_sem]
  cases findK ck r.c L <;> rfl
theorem note_sem {L : List Ent} {x : Ent} (h : x.s = x.r.s) : semL (noteE L x) = noteS (semL L) x.r := by
  unfold noteE noteS
  rw [newB_sem]
  split
  · rw [put_sem]
    unfold Ent.sem
    rw [h]
  · rfl
/-- a stored answer's number is its own, and not below nought. -/
def Fine (e : Ent) : Prop := e.s = e.r.s ∧ 0 ≤ e.s
theorem merge_note {L : List Ent} {x : Ent} (h : Fine x) : mergeE L x = noteE L x := by
  unfold mergeE noteE grtB newB
  rw [h.1, decide_eq_true (by rw [← h.1]; exact h.2), Bool.true_and]
theorem ord_note {L : List Ent} {x : Ent} (h : OrdK ck L) : OrdK ck (noteE L x) := by unfold noteE; split; exact ord_putK h; exact h
theorem ord_merge {L : List Ent} {x : Ent} (h : OrdK ck L) : OrdK ck (mergeE L x) := by unfold mergeE; split; exact ord_putK h; exact h
theorem mem_note {L : List Ent} {x e : Ent} (h : e ∈ noteE L x) : e = x ∧ newB L x.r = true ∨ e ∈ L := by
  unfold noteE at h
  split at h
  · rename_i hn
    rcases mem_putK h with h | h
    · exact Or.inl ⟨h, hn⟩
    · exact Or.inr h
  · exact Or.inr h
theorem newB_pos {L : List Ent} {r : RepL} (h : newB L r = true) : 0 ≤ r.s := by
  unfold newB at h
  rw [Bool.and_eq_true] at h
  simpa using h.1
theorem length_note {L : List Ent} {x : Ent} : (noteE L x).length ≤ L.length + 1 := by unfold noteE; split; exact length_putK; omega
theorem length_merge {L : List Ent} {x : Ent} : (mergeE L x).length ≤ L.length + 1 := by unfold mergeE; split; exact length_putK; omega

/-- merges of entries, told. -/
def mergeS (L : List (Int × RepL)) (x : Int × RepL) : List (Int × RepL) := if (match findK sk x.2.c L with | none => true | some y => decide (y.1 < x.1)) then putK sk x L else L
theorem merge_sem (L : List Ent) (x : Ent) : semL (mergeE L x) = mergeS (semL L) x.sem := by
  unfold mergeE mergeS grtB
  rw [find_sem]
  show semL (if (match findK ck x.r.c L with | none => true | some y => decide (y.s < x.s)) = true then _ else _) = _
  show _ = if (match (findK ck x.r.c L).map Ent.sem with | none => true | some y => decide (y.1 < x.s)) = true then _ else _
  cases findK ck x.r.c L with
  | none => simp only [if_true, Option.map_none]; exact put_sem x L
  | some y =>
    simp only [Option.map_some]
    show semL (if decide (y.s < x.s) = true then _ else _) = if decide (y.s < x.s) = true then _ else _
    split
    · exact put_sem x L
    · rfl
def mergesE (X : List Ent) : List Ent := X.foldl mergeE []
theorem ord_merges (X : List Ent) : ∀ (L : List Ent), OrdK ck L → OrdK ck (X.foldl mergeE L) := by
  induction X with
  | nil => intro L h; exact h
  | cons x t ih => intro L h; exact ih _ (ord_merge h)
theorem sem_merges (X : List Ent) : ∀ (L : List Ent), semL (X.foldl mergeE L) = (semL X).foldl mergeS (semL L) := by
  induction X with
  | nil => intro L; rfl
  | cons x t ih => intro L; rw [List.foldl_cons, ih, merge_sem]; rfl

/-- what is put behind all. -/
theorem put_last {X : List (Int × RepL)} {x : Int × RepL} (h : ∀ y ∈ X, sk y < sk x) : putK sk x X = X ++ [x] := by
  induction X with
  | nil => rfl
  | cons y t ih =>
    unfold putK
    rw [if_pos (h y (by simp)), ih fun z hz => h z (by simp [hz])]
    rfl
theorem merges_ord : ∀ (X P : List (Int × RepL)), OrdK sk (P ++ X) → X.foldl mergeS P = P ++ X
  | [], P, _ => by simp
  | x :: t, P, h => by
    have hb : ∀ y ∈ P, sk y < sk x := fun y hy => (List.pairwise_append.1 h).2.2 y hy x (by simp)
    have hn : mergeS P x = P ++ [x] := by
      unfold mergeS
      rw [findK_none fun e he => by have := hb e he; unfold sk at this ⊢; omega]
      simp only [if_true]
      exact put_last hb
    rw [List.foldl_cons, hn, merges_ord t (P ++ [x]) (by rw [List.append_assoc]; exact h), List.append_assoc]
    rfl
theorem merges_self (X : List (Int × RepL)) (h : OrdK sk X) : ∀ (Y : List (Int × RepL)), (∀ y ∈ Y, y ∈ X) → Y.foldl mergeS X = X
  | [], _ => rfl
  | y :: t, hm => by
    have hn : mergeS X y = X := by
      unfold mergeS
      rw [show y.2.c = sk y from rfl, findK_of_mem h (hm y (by simp))]
      simp
    rw [List.foldl_cons, hn]
    exact merges_self X h t fun z hz => hm z (by simp [hz])
/-- merged with itself it is itself; merged with nothing, too. -/
theorem merges_twice (X : List (Int × RepL)) (h : OrdK sk X) : (X ++ X).foldl mergeS [] = X := by
  rw [List.foldl_append, merges_ord X [] (by simpa using h), List.nil_append]
  exact merges_self X h X fun _ h => h
/-- notes of entries that are fine, told, are merges. -/
theorem notes_merges (X : List (Int × RepL)) (h : ∀ x ∈ X, x.1 = x.2.s ∧ 0 ≤ x.1) : ∀ (L : List (Int × RepL)), X.foldl (fun L x => noteS L x.2) L = X.foldl mergeS L := by
  induction X with
  | nil => intro L; rfl
  | cons x t ih =>
    intro L
    obtain ⟨h1, h2⟩ := h x (by simp)
    have e : noteS L x.2 = mergeS L x := by
      unfold noteS newS mergeS
      rw [← h1, decide_eq_true h2, Bool.true_and]
    rw [List.foldl_cons, List.foldl_cons, e]
    exact ih (fun y hy => h y (by simp [hy])) _
def aboveS (S : List (Int × RepL)) (c s : Int) : Bool := match findK sk c S with | none => decide (0 ≤ s) | some y => decide (y.1 < s)
def seeS (S : List (Int × RepL)) (c s : Int) : Int := if aboveS S c s then 0 else match findK sk c S with | none => 2 | some y => if y.1 = s then 1 else 2
end Go.Proofs.Ytbhojddakmgdmaa
