/-
  Layer note: a span and a shard taken; ReadItems at shards.
-/
import Derived.Test.YtfadpiipigkocaaPcPart2
import Derived.Test.YtfadpiipigkocaaMg13
namespace Go.Proofs.Ytfadpiipigkocaa
open Go.RowKit Go.Gz

/-- what takeSpan answers. -/
def RetSp1 (gp : Nat) (st : St) (w : World) (e : Ending) (w' : World) : Prop :=
  ∃ y : RecL, e = .returned (.agg #[.string (strB y.1), .string (strB y.2)]) ∧ RdAt w' gp (rdR recC st) ∧ Chg gp w w' ∧ (∀ r, rdR recC st = .ok r → y = rdV recC ([], []) st)
set_option maxHeartbeats 1000000 in
theorem takeSpan_any (w : World) (g : Nat) (st : St) (h : RdAt w g st) : Calls Try.prog 57 #[.pointer (some ⟨g, 0, none⟩)] w (RetSp1 g st w) := by
  have hgl := h.lt
  have HF := Lib.hid (show ∀ w', RdAt w' g (rdR textC (rdR textC st)) → Chg g w w' → RetSp1 g st w (.returned (.agg #[.string (strB (rdV textC [] st)), .string (strB (rdV textC [] (rdR textC st)))])) w' from fun w' h1 h2 =>
    ⟨(rdV textC [] st, rdV textC [] (rdR textC st)), rfl, by rw [show rdR recC st = rdR textC (rdR textC st) from rdR_pair textC textC st]; exact h1, h2, fun r hr => (rdV_pair textC textC ([], []) st hr).symm⟩)
  have hal : Below w.heap.size w (w.alloc (.cells #[.string ⟨#[]⟩, .string ⟨#[]⟩] 29)) := (Below.refl _ _).alloc (Nat.le_refl _) _
  have C1 := Lib.hid (text_any _ g st (h.below hal))
  have C2 := Lib.hid (fun w1 h1 => text_any w1 g (rdR textC st) h1)
  have HA := Lib.hid hal
  have HG := Lib.hid hgl
  generalize RetSp1 g st w = R at HF ⊢
  generalize strB (rdV textC [] st) = t1 at HF C1
  generalize strB (rdV textC [] (rdR textC st)) = t2 at HF C2
  generalize rdR textC (rdR textC st) = S2 at HF C2
  generalize rdR textC st = S1 at C1 C2
  clear h hal hgl
  go_enter Try.func57, Try.ntmps57
  go_wp2_with fail
  refine C1.out.mono ?_
  rintro e w1 ⟨rfl, hr1, hc1⟩
  have HC1 := Lib.hid hc1
  have C3 := Lib.hid (C2.out w1 hr1)
  clear hr1 hc1
  go_wp2_with fail
  refine C3.out.mono ?_
  rintro e w2 ⟨rfl, hr2, hc2⟩
  have HC2 := Lib.hid (HC1.out.trans hc2)
  have HB2 := Lib.hid (show w2.heap[w.heap.size]? = some (.cells #[.string ⟨#[]⟩, .string ⟨#[]⟩] 29 (0, 0)) by
    rw [HC2.out.block w.heap.size (by simp) (by have := HG.out; omega)]; exact new_block _ _ _)
  have hz := hr2.lt
  have k0 := cell_at HB2.out 0
  have k1 := frozen_at HB2.out 0
  have h3 := set_at HB2.out 0 (.string t1)
  have k2 := cell_at h3 1
  have k3 := frozen_at h3 1
  have h4 := set_at h3 1 (.string t2)
  have q0 := cell_at h4 0
  have q1 := cell_at h4 1
  have HR := Lib.hid (HF.out ((w2.setCell ⟨w.heap.size, 0, none⟩ (.string t1)).setCell ⟨w.heap.size, 1, none⟩ (.string t2)) ⟨hr2.bd, by
      rw [Below.heap_setCell _ _ _ _ (by have := HG.out; show g ≠ w.heap.size; omega), Below.heap_setCell _ _ _ _ (by have := HG.out; show g ≠ w.heap.size; omega)]; exact hr2.at_⟩
    ⟨HC2.out.os.trans HA.out.os, HC2.out.tape.trans HA.out.tape, HC2.out.output.trans HA.out.output, by have := HC2.out.size; simp [World.setCell] at this ⊢; omega, fun k hk hg => by
      rw [Below.heap_setCell _ _ _ _ (by show k ≠ w.heap.size; omega), Below.heap_setCell _ _ _ _ (by show k ≠ w.heap.size; omega), HC2.out.block k (by simp; omega) hg, HA.out.block k hk]⟩)
  clear hr2 hc2 h3 h4 hz
  go_wp2_with fail
  refine bodyPost_ret (v := .agg #[.string t1, .string t2]) (by simp [results, Try.results57, go_sem, q0, q1]) rfl HR.out

abbrev ShT := RecL × Nat × Nat
def shC : Codec ShT := recC.pair (numC.pair numC)
def sdOf (x : ShT) : Sd := ⟨⟨strB x.1.1, strB x.1.2⟩, x.2.1, x.2.2⟩
def shZ : ShT := (([], []), 0, 0)
theorem sh_seq (st : St) : rdR shC st = rdR numC (rdR numC (rdR recC st)) := by unfold shC; rw [rdR_pair, rdR_pair]
theorem sh_val (st : St) {r : List UInt8} (h : rdR shC st = .ok r) : rdV shC shZ st = (rdV recC ([], []) st, rdV numC 0 (rdR recC st), rdV numC 0 (rdR numC (rdR recC st))) := by
  unfold shC at h ⊢
  rw [rdV_pair _ _ _ _ h]
  rw [rdR_pair] at h
  rw [rdV_pair _ _ _ _ h]
  rfl
theorem recs_le {b r : List UInt8} (h : rdR recC (.ok b) = .ok r) : r.length + 1 ≤ b.length := recs_short h
theorem sh_short {b r : List UInt8} (h : rdR shC (.ok b) = .ok r) : r.length + 1 ≤ b.length := by
  rw [sh_seq] at h
  cases h1 : rdR recC (.ok b) with
  | error e => rw [h1] at h; cases h
  | ok s =>
    have h2 := recs_short h1
    have h3 := rest_num (.ok s)
    have h4 := rest_num (rdR numC (.ok s))
    rw [h1] at h
    rw [h] at h4
    have e1 : (restS (.ok s)).length = s.length := rfl
    have e2 : (restS (.ok r)).length = r.length := rfl
    omega
/-- what takeShard answers. -/
def RetSh1 (gp : Nat) (st : St) (w : World) (e : Ending) (w' : World) : Prop :=
  ∃ y : Sd, e = .returned (valSd y) ∧ RdAt w' gp (rdR shC st) ∧ Chg gp w w' ∧ (∀ r, rdR shC st = .ok r → y = sdOf (rdV shC shZ st))
set_option maxHeartbeats 1000000 in
theorem takeShard_any (w : World) (g : Nat) (st : St) (h : RdAt w g st) : Calls Try.prog 63 #[.pointer (some ⟨g, 0, none⟩)] w (RetSh1 g st w) := by
  have hgl := h.lt
  have HSV := Lib.hid (fun r (hr : rdR shC st = .ok r) => sh_val st hr)
  have HOK := Lib.hid (show ∀ r, rdR shC st = .ok r → ∃ r2, rdR recC st = .ok r2 from fun r hr => by
    rw [sh_seq] at hr
    cases h1 : rdR recC st with
    | ok r2 => exact ⟨r2, rfl⟩
    | error e => rw [h1] at hr; cases hr)
  have HF := Lib.hid (show ∀ (y : RecL) w', (∀ r, rdR recC st = .ok r → y = rdV recC ([], []) st) → RdAt w' g (rdR numC (rdR numC (rdR recC st))) → Chg g w w' → RetSh1 g st w (.returned (.agg #[.string (strB y.1), .string (strB y.2), .int .i64 (rdV numC 0 (rdR recC st) : Nat), .int .i64 (rdV numC 0 (rdR numC (rdR recC st)) : Nat)])) w' from fun y w' hy h1 h2 =>
    ⟨⟨⟨strB y.1, strB y.2⟩, (rdV numC 0 (rdR recC st) : Nat), (rdV numC 0 (rdR numC (rdR recC st)) : Nat)⟩, rfl, by rw [sh_seq]; exact h1, h2, fun r hr => by
      rw [HSV.out r hr]
      obtain ⟨r2, h3⟩ := HOK.out r hr
      rw [hy r2 h3]; rfl⟩)
  have hal : Below w.heap.size w (w.alloc (.cells #[.string ⟨#[]⟩, .string ⟨#[]⟩, .int .i64 0, .int .i64 0] 70)) := (Below.refl _ _).alloc (Nat.le_refl _) _
  have C1 := Lib.hid (takeSpan_any _ g st (h.below hal))
  have C2 := Lib.hid (fun w1 h1 => pcNumber_any w1 g (rdR recC st) h1)
  have C3 := Lib.hid (fun w1 h1 => pcNumber_any w1 g (rdR numC (rdR recC st)) h1)
  have HA := Lib.hid hal
  have HG := Lib.hid hgl
  unfold RetSp1 at C1
  generalize rdV numC 0 (rdR numC (rdR recC st)) = n2 at HF C3
  generalize rdV numC 0 (rdR recC st) = n1 at HF C2
  generalize rdR numC (rdR numC (rdR recC st)) = S3 at HF C3
  generalize rdR numC (rdR recC st) = S2 at C2 C3
  clear h hal hgl HSV HOK
  go_enter Try.func63, Try.ntmps63
  go_wp2_with fail
  refine C1.out.mono ?_
  rintro e w1 ⟨y, rfl, hr1, hc1, hy⟩
  have HC1 := Lib.hid hc1
  have HY := Lib.hid hy
  have C4 := Lib.hid (C2.out w1 hr1)
  clear hr1 hc1 hy
  go_wp2_with fail
  refine C4.out.mono ?_
  rintro e w2 ⟨rfl, hr2, hc2⟩
  have HC2 := Lib.hid (HC1.out.trans hc2)
  have C5 := Lib.hid (C3.out w2 hr2)
  clear hr2 hc2
  go_wp2_with fail
  refine C5.out.mono ?_
  rintro e w3 ⟨rfl, hr3, hc3⟩
  have HC3 := Lib.hid (HC2.out.trans hc3)
  obtain ⟨Y, hY⟩ : ∃ Y, y = Y := ⟨_, rfl⟩
  have HB3 := Lib.hid (show w3.heap[w.heap.size]? = some (.cells #[.string ⟨#[]⟩, .string ⟨#[]⟩, .int .i64 0, .int .i64 0] 70 (0, 0)) by
    rw [HC3.out.block w.heap.size (by simp) (by have := HG.out; omega)]; exact new_block _ _ _)
  have hz := hr3.lt
  have hFY := HF.out y
  generalize strB y.1 = t1 at hFY ⊢
  generalize strB y.2 = t2 at hFY ⊢
  have k0 := cell_at HB3.out 0
  have k1 := frozen_at HB3.out 0
  have h3 := set_at HB3.out 0 (.string t1)
  have k2 := cell_at h3 1
  have k3 := frozen_at h3 1
  have h4 := set_at h3 1 (.string t2)
  have k4 := cell_at h4 2
  have k5 := frozen_at h4 2
  have h5 := set_at h4 2 (.int .i64 (n1 : Nat))
  have k6 := cell_at h5 3
  have k7 := frozen_at h5 3
  have h6 := set_at h5 3 (.int .i64 (n2 : Nat))
  have q0 := cell_at h6 0
  have q1 := cell_at h6 1
  have q2 := cell_at h6 2
  have q3 := cell_at h6 3
  have HR := Lib.hid (hFY ((((w3.setCell ⟨w.heap.size, 0, none⟩ (.string t1)).setCell ⟨w.heap.size, 1, none⟩ (.string t2)).setCell ⟨w.heap.size, 2, none⟩ (.int .i64 (n1 : Nat))).setCell ⟨w.heap.size, 3, none⟩ (.int .i64 (n2 : Nat))) HY.out ⟨hr3.bd, by
      rw [Below.heap_setCell _ _ _ _ (by have := HG.out; show g ≠ w.heap.size; omega), Below.heap_setCell _ _ _ _ (by have := HG.out; show g ≠ w.heap.size; omega), Below.heap_setCell _ _ _ _ (by have := HG.out; show g ≠ w.heap.size; omega), Below.heap_setCell _ _ _ _ (by have := HG.out; show g ≠ w.heap.size; omega)]; exact hr3.at_⟩
    ⟨HC3.out.os.trans HA.out.os, HC3.out.tape.trans HA.out.tape, HC3.out.output.trans HA.out.output, by have := HC3.out.size; simp [World.setCell] at this ⊢; omega, fun k hk hg => by
      rw [Below.heap_setCell _ _ _ _ (by show k ≠ w.heap.size; omega), Below.heap_setCell _ _ _ _ (by show k ≠ w.heap.size; omega), Below.heap_setCell _ _ _ _ (by show k ≠ w.heap.size; omega), Below.heap_setCell _ _ _ _ (by show k ≠ w.heap.size; omega), HC3.out.block k (by simp; omega) hg, HA.out.block k hk]⟩)
  clear hr3 hc3 h3 h4 h5 h6 hz hY hFY
  go_wp2_with fail
  refine bodyPost_ret (v := .agg #[.string t1, .string t2, .int .i64 (n1 : Nat), .int .i64 (n2 : Nat)]) (by simp [results, Try.results63, go_sem, q0, q1, q2, q3]) rfl HR.out

abbrev OwnSd (w : World) (B : Nat) (v : Value) (L : List Sd) : Prop := OwnK KS w B 70 v L
theorem KeptF.of_chg {g : Nat} {w w' : World} (h : Chg g w w') : KeptF (fun k => k = g) w w' := ⟨h.os, h.tape, h.output, h.size, h.block⟩
/-- what ReadItems answers at Shard. -/
def RetItShard (w : World) (gp : Nat) (st : St) (e : Ending) (w' : World) : Prop :=
  ∃ v ys, e = .returned v ∧ OwnSd w' w.heap.size v ys ∧ RdAt w' gp (rdR (Codec.list shC) st) ∧ Chg gp w w' ∧ (∀ r, rdR (Codec.list shC) st = .ok r → ys.map (fun y : Sd => y) = (rdV (Codec.list shC) [] st).map sdOf) ∧ True
structure RiShard (w : World) (gp : Nat) (F : St) (L : List Sd) (N : Nat) (v : Value) (m : Nat) (wr : World) (s : St) (ys : List Sd) : Prop where
  own : OwnSd wr w.heap.size v ys
  rd : RdAt wr gp s
  ch : Chg gp w wr
  pu : ItI shC shZ (fun y : Sd => y) sdOf F L N m s ys
  ins : True

set_option maxHeartbeats 4000000 in
theorem readItemsShard {g : FuncId} {lb : Array Value} (eg : ∀ args w, (callFunc g args).run Try.prog w = .ok (.enter g args) w) (w : World) (gp : Nat) (st : St) (h : RdAt w gp st) (hl : (restS st).length ≤ 99999999)
    (hC : ∀ b r, rdR shC (.ok b) = .ok r → r.length + 1 ≤ b.length)
    (hone : ∀ w1 b, Chg gp w w1 → RdAt w1 gp (.ok b) → b.length ≤ (restS st).length → Calls Try.prog g (#[.pointer (some ⟨gp, 0, none⟩)] ++ lb) w1 (RetSh1 gp (.ok b) w1)) :
    Calls Try.prog 62 #[.pointer (some ⟨gp, 0, none⟩), .func (.func g) #[] lb] w (RetItShard w gp st) := by
  have hfn : ∀ w : World, (binOp .eql 116 (.func (.func g) #[] lb) .nilFunc).run Try.prog w = .ok (.bool false) w := fun _ => by kernel_rfl
  have hgl := h.lt
  have HF := Lib.hid (show ∀ v ys w', OwnSd w' w.heap.size v ys → RdAt w' gp (rdR (Codec.list shC) st) → Chg gp w w' → (∀ r, rdR (Codec.list shC) st = .ok r → ys.map (fun y : Sd => y) = (rdV (Codec.list shC) [] st).map sdOf) → True → RetItShard w gp st (.returned v) w' from fun v ys w' h1 h2 h3 h4 h5 => ⟨v, ys, rfl, h1, h2, h3, h4, h5⟩)
  have CN := Lib.hid (pcNumber_any w gp st h)
  obtain ⟨n, hn⟩ : ∃ n, rdV numC 0 st = n := ⟨_, rfl⟩
  obtain ⟨S, hS1⟩ : ∃ S, rdR numC st = S := ⟨_, rfl⟩
  obtain ⟨N, hN⟩ : ∃ N, (restS st).length = N := ⟨_, rfl⟩
  have hst := ItI.start (C := shC) (d := shZ) (g := (fun y : Sd => y)) (h := sdOf) (N := N) hn hS1 (by rw [← hS1, ← hN]; exact rest_num st)
  have hnb : n ≤ 268435455 := hn ▸ rdV_num_le st
  have HERR := Lib.hid (show ∀ e0, S = .error e0 → rdR (Codec.list shC) st = .error e0 from fun e0 he => by
    obtain ⟨h1, _⟩ := list_seq shC shZ st
    rw [h1, hS1, he]; exact iterR_err _ _ _)
  obtain ⟨F, hF⟩ : ∃ F, rdR (Codec.list shC) st = F := ⟨_, rfl⟩
  obtain ⟨L, hL⟩ : ∃ L, (rdV (Codec.list shC) [] st).map sdOf = L := ⟨_, rfl⟩
  rw [hF, hL] at HF hst
  rw [hF] at HERR
  rw [hn, hS1] at CN
  rw [hN] at hl
  have HST := Lib.hid hst
  have HONE := Lib.hid (hN ▸ hone)
  have HC := Lib.hid hC
  have HNL := Lib.hid hl
  have HG := Lib.hid hgl
  clear h hst hF hL hN hn hS1 hone hC hl hgl
  go_enter Try.func62, Try.ntmps62
  go_wp2_with fail
  refine CN.out.mono ?_
  rintro e w1 ⟨rfl, hr1, hc1⟩
  have hat1 := hr1.at_
  have c1 := cell_at hat1 1
  clear hat1
  have HR1 := Lib.hid hr1
  have HC1 := Lib.hid hc1
  clear hr1 hc1 CN
  cases S with
  | error e0 =>
    have h0 := HR1.out.bd e0 rfl
    have h0z : ((e0 : Int) != 0) = true := by simp; omega
    simp only [errS] at c1
    have HP := Lib.hid (HF.out (.slice none 0 0) [] w1 (OwnK.nil _ _ _ _) (by rw [HERR.out e0 rfl]; exact HR1.out) HC1.out (fun r hr => by rw [HERR.out e0 rfl] at hr; cases hr) trivial)
    clear h0
    go_wp2_with fail
    go_ret
    exact HP.out
  | ok b0 =>
    simp only [errS] at c1
    have HI := Lib.hid (show RiShard w gp F L N (.slice none 0 0) n w1 (.ok b0) [] from ⟨OwnK.nil _ _ _ _, HR1.out, HC1.out, HST.out, trivial⟩)
    clear HERR HST HR1 HC1
    go_wp2_with fail
    clear c1
    go_loopw [5, 6] (fun i v wr => ∃ (m : Nat) (s : St) (ys : List Sd), i = .int .i64 m ∧ m ≤ 268435455 ∧ Hid (RiShard w gp F L N v m wr s ys)) (fun i _ _ => (RowKit.intOf i).toNat)
    case atStart => exact ⟨n, .ok b0, [], rfl, hnb, HI⟩
    case round =>
      obtain ⟨m, s, ys, rfl, hmb, HR⟩ := hrel
      have hat := HR.out.rd.at_
      have c1 := cell_at hat 1
      clear hat
      cases s with
      | error e0 =>
        have h0 := HR.out.rd.bd e0 rfl
        have h0z : ((e0 : Int) == 0) = false := by simp; omega
        have h0y : ((e0 : Int) != 0) = true := by simp; omega
        simp only [errS] at c1
        have HP := Lib.hid (HF.out (.slice none 0 0) [] wr (OwnK.nil _ _ _ _) (by rw [HR.out.pu.err]; exact HR.out.rd) HR.out.ch (fun r hr => by rw [HR.out.pu.err] at hr; cases hr) trivial)
        clear h0
        by_cases hm : m = 0
        · subst hm
          go_wp2_with fail
          go_ret
          exact HP.out
        · have hmz : decide ((m : Int) > 0) = true := by simp; omega
          go_wp2_with fail
          go_ret
          exact HP.out
      | ok b =>
        simp only [errS] at c1
        by_cases hm : m = 0
        · subst hm
          have HP := Lib.hid (HF.out _ ys wr HR.out.own (HR.out.pu.done.1 ▸ HR.out.rd) HR.out.ch HR.out.pu.done.2 trivial)
          obtain ⟨q, d, rfl, -⟩ := HR.out.own.row
          go_wp2_with fail
          go_ret
          exact HP.out
        · have hmz : decide ((m : Int) > 0) = true := by simp; omega
          obtain ⟨m', rfl⟩ : ∃ m', m = m' + 1 := ⟨m - 1, by omega⟩
          have C1 := Lib.hid (HONE.out wr b HR.out.ch HR.out.rd (by have := HR.out.pu.lt ⟨b, rfl⟩; have e : (restS (.ok b)).length = b.length := rfl; omega))
          obtain ⟨q, d, rfl, -⟩ := HR.out.own.row
          have hls : ys.length ≤ 99999999 := by have := HR.out.pu.lt ⟨b, rfl⟩; have := HNL.out; omega
          have hls1 : ys.length + 1 ≤ 100000001 := by omega
          have HLS := Lib.hid hls
          clear hls1 hm
          obtain ⟨k, hk⟩ : ∃ k, ys.length = k := ⟨_, rfl⟩
          have HOW := Lib.hid (hk ▸ HR.out.own)
          rw [hk]
          have HK := Lib.hid hk
          clear hk hls
          go_wp2_with fail
          refine C1.out.mono ?_
          rintro e w3 ⟨y, rfl, hr3, hc3, hv3⟩
          have HC3 := Lib.hid (HR.out.ch.trans hc3)
          have HR3 := Lib.hid hr3
          have HO3 := Lib.hid (HOW.out.kept (KeptF.of_chg hc3) fun b hb hg => by have := (HOW.out.ltB b hb).1; have := HG.out; omega)
          have HV3 := Lib.hid hv3
          have HZ := Lib.hid (show w.heap.size ≤ w3.heap.size from HC3.out.size)
          have HAL := Lib.hid (show Below w3.heap.size w3 (w3.alloc (.cells #[.string y.sp.f, .string y.sp.t, .int .i64 y.n, .int .i64 y.e] 70)) from (Below.refl _ _).alloc (Nat.le_refl _) _)
          have hsz4 : w.heap.size ≤ (w3.alloc (.cells #[.string y.sp.f, .string y.sp.t, .int .i64 y.n, .int .i64 y.e] 70)).heap.size := by rw [World.size_alloc]; have := HZ.out; omega
          have hls4 : ys.length + [y].length ≤ 100000000 := by have := HLS.out; simp only [List.length_singleton]; omega
          have ho4 := HO3.out.alloc (.cells #[.string y.sp.f, .string y.sp.t, .int .i64 y.n, .int .i64 y.e] 70)
          have hrow4 : RowK KS (w3.alloc (.cells #[.string y.sp.f, .string y.sp.t, .int .i64 y.n, .int .i64 y.e] 70)) (some ⟨w3.heap.size, 0, none⟩) [y] := RowK.block KS (L := [y]) (new_block w3 _ _)
          unfold valSd
          clear hr3 hc3 hv3
          go_wp2_with (at_builtin; refine wpList_app_k skt_atlas rfl _ _ rfl rfl ho4 (some ⟨w3.heap.size, 0, none⟩) 1 [y] rfl hrow4 (fun h => by cases h) hls4 hsz4 ?_)
          intro v4 w4 hown4 hgrow _
          clear ho4 hrow4
          have HI4 := Lib.hid (show RiShard w gp F L N v4 m' w4 (rdR shC (.ok b)) (ys ++ [y]) from by
            have hne : some gp ≠ (Value.slice q k d).ownBlock := fun e => by
              have := (fun b hb => (HO3.out.ltB b hb).1) gp e.symm
              have := HG.out
              omega
            exact ⟨hown4, (HR3.out.below HAL.out).grown hgrow hne, Chg.grown hgrow (HC3.out.trans (Chg.of_below HAL.out)) (fun b hb => (fun b hb => (HO3.out.ltB b hb).1) b hb), HR.out.pu.step (HC.out b) HV3.out, trivial⟩)
          clear hown4 hgrow
          go_wp2_with fail
          go_roundw
          case rel => exact ⟨m', _, _, by go_num, by omega, HI4⟩
          case measure => simp [RowKit.intOf]
end Go.Proofs.Ytfadpiipigkocaa
