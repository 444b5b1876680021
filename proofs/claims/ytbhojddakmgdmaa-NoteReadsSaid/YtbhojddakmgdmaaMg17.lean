/-
  Several texts in one: NtRiLast, PcPart, NtIt.
-/
import Derived.Test.YtbhojddakmgdmaaMg09
import Derived.Test.YtbhojddakmgdmaaMg16
import Derived.Test.YtbhojddakmgdmaaMg05
import Derived.Test.YtbhojddakmgdmaaMg13
namespace Go.Proofs.Ytbhojddakmgdmaa
open Go.RowKit Go.Gz

abbrev RepT := Nat × Nat × Nat × Bool × List UInt8 × List (List UInt8 × List UInt8) × List UInt8 × Bool
abbrev LaT := Nat × RepT
def laC : Codec LaT := numC.pair (replyC.part 32768)
def laOf (x : LaT) : Int × RepL := ((x.1 : Int), repT x.2)
def laZ : LaT := (0, (0, 0, 0, false, [], [], [], false))
theorem la_seq (st : St) : rdR laC st = rdR (replyC.part 32768) (rdR numC st) := by unfold laC; rw [rdR_pair]
theorem la_val (st : St) {r : List UInt8} (h : rdR laC st = .ok r) : rdV laC laZ st = (rdV numC 0 st, rdV (replyC.part 32768) (0, 0, 0, false, [], [], [], false) (rdR numC st)) := by
  unfold laC at h ⊢
  rw [rdV_pair _ _ _ _ h]
  rfl
theorem num_short {b r : List UInt8} (h : rdR numC (.ok b) = .ok r) : r.length + 4 ≤ b.length := by
  cases hd : numC.dec b with
  | error e => rw [rdR_no hd] at h; cases h
  | ok x =>
    obtain ⟨n, s⟩ := x
    rw [rdR_ok hd] at h
    injection h with h
    subst h
    have h : decN b = .ok (n, s) := hd
    unfold decN at h
    by_cases h4 : b.length < 4
    · rw [if_pos h4] at h; cases h
    · rw [if_neg h4] at h
      by_cases h5 : 268435456 ≤ numL (b.take 4)
      · rw [if_pos h5] at h; cases h
      · rw [if_neg h5] at h
        injection h with h
        injection h with _ h
        rw [← h, List.length_drop]; omega
theorem la_short {b r : List UInt8} (h : rdR laC (.ok b) = .ok r) : r.length + 1 ≤ b.length := by
  rw [la_seq] at h
  cases h1 : rdR numC (.ok b) with
  | error e => rw [h1] at h; cases h
  | ok s =>
    have h2 := num_short h1
    have h3 := rest_part 32768 replyC (.ok s)
    rw [h1] at h
    rw [h] at h3
    have e1 : (restS (.ok s)).length = s.length := rfl
    have e2 : (restS (.ok r)).length = r.length := rfl
    omega
theorem infoLast9 : (Try.prog.info? 93).map (·.size) = some 9 := by kernel_rfl
/-- what takeLast answers. -/
def RetLa1 (gp : Nat) (st : St) (w : World) (e : Ending) (w' : World) : Prop :=
  ∃ y : Ent, e = .returned y.val ∧ Recs w' y.p y.r.ls ∧ RecN w.heap.size w' y.p ∧ RdAt w' gp (rdR laC st) ∧ Chg gp w w' ∧ (∀ r, rdR laC st = .ok r → y.sem = laOf (rdV laC laZ st))
set_option maxHeartbeats 2000000 in
set_option maxRecDepth 100000 in
theorem takeLast_any (w : World) (gp : Nat) (st : St) (h : RdAt w gp st) : Calls Try.prog 44 #[.pointer (some ⟨gp, 0, none⟩)] w (RetLa1 gp st w) := by
  have hgl := h.lt
  have HSV := Lib.hid (fun r (hr : rdR laC st = .ok r) => la_val st hr)
  have HSQ := Lib.hid (la_seq st)
  obtain ⟨Z, hZ⟩ : ∃ Z : Array Value, #[.int .i64 0, .int .i64 0, .int .i64 0, .int .i64 0, .bool false, .string ⟨#[]⟩, .slice none 0 0, .string ⟨#[]⟩, .bool false] = Z := ⟨_, rfl⟩
  have hZs : Z.size = 9 := by rw [← hZ]; rfl
  have hal : Below w.heap.size w (w.alloc (.cells Z 93)) := (Below.refl _ _).alloc (Nat.le_refl _) _
  obtain ⟨W1, hW1⟩ : ∃ W1, w.alloc (.cells Z 93) = W1 := ⟨_, rfl⟩
  have HA1 := Lib.hid (show W1.heap[w.heap.size]? = some (.cells Z 93 (0, 0)) from hW1 ▸ new_block _ _ _)
  have HZ1 := Lib.hid (show W1.heap.size = w.heap.size + 1 by rw [← hW1]; simp)
  have HB1 := Lib.hid (show Below w.heap.size w W1 from hW1 ▸ hal)
  have C1 := Lib.hid (pcNumber_any W1 gp st (h.below HB1.out))
  have C2 := Lib.hid (fun w1 h1 => readPartReply w1 gp (rdR numC st) h1)
  have HG := Lib.hid hgl
  have HW1 := Lib.hid hW1
  have HZ := Lib.hid hZ
  have HZS := Lib.hid hZs
  clear h hal hgl hW1 hZ hZs
  unfold RetPtReply at C2
  obtain ⟨n1, hn1⟩ : ∃ n, rdV numC 0 st = n := ⟨_, rfl⟩
  obtain ⟨S1, hS1⟩ : ∃ S, rdR numC st = S := ⟨_, rfl⟩
  rw [hn1, hS1] at C1
  rw [hS1] at C2 HSQ
  have HN := Lib.hid (And.intro hn1 hS1)
  clear hn1 hS1
  go_enter Try.func44, Try.ntmps44
  go_upto_region 1 with fail
  rw [HZ.out, HW1.out]
  go_wp2_with fail
  refine C1.out.mono ?_
  rintro e w2 ⟨rfl, hr2, hc2⟩
  have HC2 := Lib.hid hc2
  have C3 := Lib.hid (C2.out w2 hr2)
  clear hr2 hc2
  go_wp2_with fail
  refine C3.out.mono ?_
  rintro e w3 ⟨r, q, d, rfl, hr3, hc3, hrec, hrn, hv⟩
  have HC3 := Lib.hid (HC2.out.trans hc3)
  have HA3 := Lib.hid (show w3.heap[w.heap.size]? = some (.cells Z 93 (0, 0)) by rw [HC3.out.block _ (by rw [HZ1.out]; omega) (by have := HG.out; omega)]; exact HA1.out)
  obtain ⟨V, hV⟩ : ∃ V : Array Value, #[.int .i64 (n1 : Nat), .int .i64 r.c, .int .i64 r.s, .int .i64 r.e, .bool r.fd, .string (strB r.v), .slice q r.ls.length d, .string (strB r.nx), .bool r.mr] = V := ⟨_, rfl⟩
  have hVs : V.size = 9 := by rw [← hV]; rfl
  have HVI := Lib.hid (show (Try.prog.info? 93).map (·.size) = some V.size by rw [hVs]; exact infoLast9)
  have HVO := Lib.hid (show V.all (·.oneCell') = true by rw [← hV]; simp [Value.oneCell'])
  have HVZ := Lib.hid (show Z.size = V.size by rw [HZS.out, hVs])
  have hA4 : (w3.setRow w.heap.size V).heap[w.heap.size]? = some (.cells V 93 (0, 0)) := setRow_heap _ _ _ _ _ _ HA3.out
  have HA4 := Lib.hid hA4
  have hs2 : w.heap.size + 1 ≤ w2.heap.size := by have := HC2.out.size; rw [HZ1.out] at this; exact this
  have HQ := Lib.hid (show RetLa1 gp st w (.returned (.agg V)) (w3.setRow w.heap.size V) from ⟨⟨(n1 : Nat), r, q, d⟩, by rw [← hV]; rfl,
    hrec.move (by rw [size_setRow]; exact Nat.le_refl _) (fun b off hb _ => setRow_other (by have := (hrn b off hb).1; omega)),
    hrn.move (by omega) (fun b off hb _ => setRow_other (by have := (hrn b off hb).1; omega)),
    by rw [HSQ.out]; exact ⟨hr3.bd, by rw [setRow_other (by have := HG.out; omega)]; exact hr3.at_⟩,
    ⟨HC3.out.os.trans HB1.out.os, HC3.out.tape.trans HB1.out.tape, HC3.out.output.trans HB1.out.output, by rw [size_setRow]; have := HC3.out.size; have := HB1.out.size; omega, fun k hk hg => by rw [setRow_other (by omega), HC3.out.block k (by rw [HZ1.out]; omega) hg, HB1.out.block k hk]⟩,
    fun s hs => by
      rw [HSV.out s hs]
      rw [HSQ.out] at hs
      rw [HN.out.1, HN.out.2, show (⟨(n1 : Nat), r, q, d⟩ : Ent).sem = ((n1 : Int), r) from rfl, hv s hs]; rfl⟩)
  unfold repV
  have HV := Lib.hid hV
  clear hr3 hc3 hrec hrn hv hVs hA4 hs2 hV
  generalize r.c = a1 at HV ⊢
  generalize r.s = a2 at HV ⊢
  generalize r.e = a3 at HV ⊢
  generalize r.fd = a4 at HV ⊢
  generalize strB r.v = a5 at HV ⊢
  generalize r.ls.length = a6 at HV ⊢
  generalize strB r.nx = a7 at HV ⊢
  generalize r.mr = a8 at HV ⊢
  go_wp2_with (refine wpList_store_row rfl 93 (.tmp 2) (.tmp 7) rfl w.heap.size V rfl (congrArg Value.agg HV.out) 93 Z HA3.out HVI.out HVZ.out HVO.out ?_)
  exact bodyPost_ret (v := .agg V) (results_cell_row rfl _ _ w.heap.size 93 V (0, 0) _ rfl HA4.out Try.underlying93 rfl HVI.out) rfl HQ.out

abbrev OwnLa (w : World) (B : Nat) (v : Value) (L : List Ent) : Prop := OwnE w B 93 v L
theorem Kept.of_chg {g : Nat} {w w' : World} (h : Chg g w w') : Kept (fun k => k = g) w w' := ⟨h.os, h.tape, h.output, h.size, h.block⟩
/-- the entries' records lie in blocks of records, from B on. -/
def EntsN (B : Nat) (w : World) (ys : List Ent) : Prop := ∀ y ∈ ys, Recs w y.p y.r.ls ∧ RecN B w y.p
theorem EntsN.move {B : Nat} {w w' : World} {ys : List Ent} (h : EntsN B w ys) (hs : w.heap.size ≤ w'.heap.size) (hk : ∀ b cs fz, B ≤ b → w.heap[b]? = some (.cells cs 54 fz) → w'.heap[b]? = w.heap[b]?) : EntsN B w' ys := fun y hy => by
  obtain ⟨h1, h2⟩ := h y hy
  have hb : ∀ b off, y.p = some ⟨b, off, none⟩ → b < w.heap.size → w'.heap[b]? = w.heap[b]? := fun b off hp _ => by
    obtain ⟨h3, cs, fz, h4⟩ := h2 b off hp
    exact hk b cs fz h3 h4
  exact ⟨h1.move hs hb, h2.move (Nat.le_refl _) hb⟩
theorem EntsN.chg {B g : Nat} {w w' : World} {ys : List Ent} (h : EntsN B w ys) (hc : Chg g w w') (hg : g < B) : EntsN B w' ys := h.move hc.size fun b cs fz hb hh => hc.block b (Array.getElem?_eq_some_iff.1 hh).1 (by omega)
theorem EntsN.below {B : Nat} {w w' : World} {ys : List Ent} (h : EntsN B w ys) (hb : Below w.heap.size w w') : EntsN B w' ys := h.move hb.size fun b _ _ _ hh => hb.block b (Array.getElem?_eq_some_iff.1 hh).1
theorem EntsN.grown {B : Nat} {w w' : World} {ys L : List Ent} {v : Value} (h : EntsN B w ys) (ho : OwnLa w B v L) (hg : w.grownBy w' v.ownBlock) : EntsN B w' ys := h.move hg.size fun b cs fz hb hh => hg.block b (Array.getElem?_eq_some_iff.1 hh).1 fun e => by
  obtain ⟨cs', fz', h'⟩ := ho.type b e.symm
  rw [hh] at h'
  injection h' with h'
  injection h' with _ h' _
  exact absurd h' (by decide)
theorem EntsN.snoc {B : Nat} {w : World} {ys : List Ent} {y : Ent} (h : EntsN B w ys) (h1 : Recs w y.p y.r.ls) (h2 : RecN B w y.p) : EntsN B w (ys ++ [y]) := fun z hz => by
  rcases List.mem_append.1 hz with hz | hz
  · exact h z hz
  · rw [List.mem_singleton] at hz; subst hz; exact ⟨h1, h2⟩
/-- what ReadItems answers at Last. -/
def RetItLast (w : World) (gp : Nat) (st : St) (e : Ending) (w' : World) : Prop :=
  ∃ v ys, e = .returned v ∧ OwnLa w' w.heap.size v ys ∧ RdAt w' gp (rdR (Codec.list laC) st) ∧ Chg gp w w' ∧ (∀ r, rdR (Codec.list laC) st = .ok r → ys.map Ent.sem = (rdV (Codec.list laC) [] st).map laOf) ∧ EntsN w.heap.size w' ys
structure RiLast (w : World) (gp : Nat) (F : St) (L : List (Int × RepL)) (N : Nat) (v : Value) (m : Nat) (wr : World) (s : St) (ys : List Ent) : Prop where
  own : OwnLa wr w.heap.size v ys
  rd : RdAt wr gp s
  ch : Chg gp w wr
  pu : ItI laC laZ Ent.sem laOf F L N m s ys
  ins : EntsN w.heap.size wr ys

set_option maxHeartbeats 4000000 in
theorem readItemsLast {g : FuncId} {lb : Array Value} (eg : ∀ args w, (callFunc g args).run Try.prog w = .ok (.enter g args) w) (w : World) (gp : Nat) (st : St) (h : RdAt w gp st) (hl : (restS st).length ≤ 99999999)
    (hC : ∀ b r, rdR laC (.ok b) = .ok r → r.length + 1 ≤ b.length)
    (hone : ∀ w1 b, Chg gp w w1 → RdAt w1 gp (.ok b) → b.length ≤ (restS st).length → Calls Try.prog g (#[.pointer (some ⟨gp, 0, none⟩)] ++ lb) w1 (RetLa1 gp (.ok b) w1)) :
    Calls Try.prog 43 #[.pointer (some ⟨gp, 0, none⟩), .func (.func g) #[] lb] w (RetItLast w gp st) := by
  have hfn : ∀ w : World, (binOp .eql 94 (.func (.func g) #[] lb) .nilFunc).run Try.prog w = .ok (.bool false) w := fun _ => by kernel_rfl
  have hgl := h.lt
  have HF := Lib.hid (show ∀ v ys w', OwnLa w' w.heap.size v ys → RdAt w' gp (rdR (Codec.list laC) st) → Chg gp w w' → (∀ r, rdR (Codec.list laC) st = .ok r → ys.map Ent.sem = (rdV (Codec.list laC) [] st).map laOf) → EntsN w.heap.size w' ys → RetItLast w gp st (.returned v) w' from fun v ys w' h1 h2 h3 h4 h5 => ⟨v, ys, rfl, h1, h2, h3, h4, h5⟩)
  have CN := Lib.hid (pcNumber_any w gp st h)
  obtain ⟨n, hn⟩ : ∃ n, rdV numC 0 st = n := ⟨_, rfl⟩
  obtain ⟨S, hS1⟩ : ∃ S, rdR numC st = S := ⟨_, rfl⟩
  obtain ⟨N, hN⟩ : ∃ N, (restS st).length = N := ⟨_, rfl⟩
  have hst := ItI.start (C := laC) (d := laZ) (g := Ent.sem) (h := laOf) (N := N) hn hS1 (by rw [← hS1, ← hN]; exact rest_num st)
  have hnb : n ≤ 268435455 := hn ▸ rdV_num_le st
  have HERR := Lib.hid (show ∀ e0, S = .error e0 → rdR (Codec.list laC) st = .error e0 from fun e0 he => by
    obtain ⟨h1, _⟩ := list_seq laC laZ st
    rw [h1, hS1, he]; exact iterR_err _ _ _)
  obtain ⟨F, hF⟩ : ∃ F, rdR (Codec.list laC) st = F := ⟨_, rfl⟩
  obtain ⟨L, hL⟩ : ∃ L, (rdV (Codec.list laC) [] st).map laOf = L := ⟨_, rfl⟩
  rw [hF, hL] at HF hst
  rw [hF] at HERR
  rw [hn, hS1] at CN
  rw [hN] at hl
  have HST := Lib.hid hst
  have HONE := Lib.hid (hN ▸ hone)
  have HC := Lib.hid hC
  have HNL := Lib.hid hl
  have HG := Lib.hid hgl
  clear h hst hF hL hN hn hS1 hone hC hl hgl
  go_enter Try.func43, Try.ntmps43
  go_wp2_with fail
  refine CN.out.mono ?_
  rintro e w1 ⟨rfl, hr1, hc1⟩
  have hat1 := hr1.at_
  have c1 := cell_at hat1 1
  clear hat1
  have HR1 := Lib.hid hr1
  have HC1 := Lib.hid hc1
  clear hr1 hc1 CN
  cases S with
  | error e0 =>
    have h0 := HR1.out.bd e0 rfl
    have h0z : ((e0 : Int) != 0) = true := by simp; omega
    simp only [errS] at c1
    have HP := Lib.hid (HF.out (.slice none 0 0) [] w1 (OwnE.nil _ _ _) (by rw [HERR.out e0 rfl]; exact HR1.out) HC1.out (fun r hr => by rw [HERR.out e0 rfl] at hr; cases hr) (fun y hy => by cases hy))
    clear h0
    go_wp2_with fail
    go_ret
    exact HP.out
  | ok b0 =>
    simp only [errS] at c1
    have HI := Lib.hid (show RiLast w gp F L N (.slice none 0 0) n w1 (.ok b0) [] from ⟨OwnE.nil _ _ _, HR1.out, HC1.out, HST.out, (fun y hy => by cases hy)⟩)
    clear HERR HST HR1 HC1
    go_wp2_with fail
    clear c1
    go_loopw [5, 6] (fun i v wr => ∃ (m : Nat) (s : St) (ys : List Ent), i = .int .i64 m ∧ m ≤ 268435455 ∧ Hid (RiLast w gp F L N v m wr s ys)) (fun i _ _ => (RowKit.intOf i).toNat)
    case atStart => exact ⟨n, .ok b0, [], rfl, hnb, HI⟩
    case round =>
      obtain ⟨m, s, ys, rfl, hmb, HR⟩ := hrel
      have hat := HR.out.rd.at_
      have c1 := cell_at hat 1
      clear hat
      cases s with
      | error e0 =>
        have h0 := HR.out.rd.bd e0 rfl
        have h0z : ((e0 : Int) == 0) = false := by simp; omega
        have h0y : ((e0 : Int) != 0) = true := by simp; omega
        simp only [errS] at c1
        have HP := Lib.hid (HF.out (.slice none 0 0) [] wr (OwnE.nil _ _ _) (by rw [HR.out.pu.err]; exact HR.out.rd) HR.out.ch (fun r hr => by rw [HR.out.pu.err] at hr; cases hr) (fun y hy => by cases hy))
        clear h0
        by_cases hm : m = 0
        · subst hm
          go_wp2_with fail
          go_ret
          exact HP.out
        · have hmz : decide ((m : Int) > 0) = true := by simp; omega
          go_wp2_with fail
          go_ret
          exact HP.out
      | ok b =>
        simp only [errS] at c1
        by_cases hm : m = 0
        · subst hm
          have HP := Lib.hid (HF.out _ ys wr HR.out.own (HR.out.pu.done.1 ▸ HR.out.rd) HR.out.ch HR.out.pu.done.2 HR.out.ins)
          obtain ⟨q, d, rfl, -⟩ := HR.out.own.row
          go_wp2_with fail
          go_ret
          exact HP.out
        · have hmz : decide ((m : Int) > 0) = true := by simp; omega
          obtain ⟨m', rfl⟩ : ∃ m', m = m' + 1 := ⟨m - 1, by omega⟩
          have C1 := Lib.hid (HONE.out wr b HR.out.ch HR.out.rd (by have := HR.out.pu.lt ⟨b, rfl⟩; have e : (restS (.ok b)).length = b.length := rfl; omega))
          obtain ⟨q, d, rfl, -⟩ := HR.out.own.row
          have hls : ys.length ≤ 99999999 := by have := HR.out.pu.lt ⟨b, rfl⟩; have := HNL.out; omega
          have hls1 : ys.length + 1 ≤ 100000001 := by omega
          have HLS := Lib.hid hls
          clear hls1 hm
          obtain ⟨k, hk⟩ : ∃ k, ys.length = k := ⟨_, rfl⟩
          have HOW := Lib.hid (hk ▸ HR.out.own)
          rw [hk]
          have HK := Lib.hid hk
          clear hk hls
          go_wp2_with fail
          refine C1.out.mono ?_
          rintro e w3 ⟨y, rfl, hrc3, hrn3, hr3, hc3, hv3⟩
          have HC3 := Lib.hid (HR.out.ch.trans hc3)
          have HR3 := Lib.hid hr3
          have HO3 := Lib.hid (HOW.out.kept (Kept.of_chg hc3) fun b hb hg => by have := HOW.out.lt b hb; have := HG.out; omega)
          have HV3 := Lib.hid hv3
          have HZ := Lib.hid (show w.heap.size ≤ w3.heap.size from HC3.out.size)
          obtain ⟨Y, hY⟩ : ∃ Y, Y = y := ⟨y, rfl⟩
          have HE3 := Lib.hid (show EntsN w.heap.size w3 (ys ++ [Y]) by rw [hY]; exact (HR.out.ins.chg hc3 HG.out).snoc hrc3 (hrn3.move HR.out.ch.size (fun _ _ _ _ => rfl)))
          have HV3 := Lib.hid (show ∀ r, rdR laC (.ok b) = .ok r → Y.sem = laOf (rdV laC laZ (.ok b)) by rw [hY]; exact hv3)
          clear hrc3 hrn3
          have HAL := Lib.hid (show Below w3.heap.size w3 (w3.alloc (.cells #[.int .i64 y.s, .int .i64 y.r.c, .int .i64 y.r.s, .int .i64 y.r.e, .bool y.r.fd, .string (strB y.r.v), .slice y.p y.r.ls.length y.k, .string (strB y.r.nx), .bool y.r.mr] 93)) from (Below.refl _ _).alloc (Nat.le_refl _) _)
          have hsz4 : w.heap.size ≤ (w3.alloc (.cells #[.int .i64 y.s, .int .i64 y.r.c, .int .i64 y.r.s, .int .i64 y.r.e, .bool y.r.fd, .string (strB y.r.v), .slice y.p y.r.ls.length y.k, .string (strB y.r.nx), .bool y.r.mr] 93)).heap.size := by rw [World.size_alloc]; have := HZ.out; omega
          have hls4 : ys.length + [Y].length ≤ 1000000000000 := by have := HLS.out; simp only [List.length_singleton]; omega
          have ho4 := HO3.out.alloc (.cells #[.int .i64 y.s, .int .i64 y.r.c, .int .i64 y.r.s, .int .i64 y.r.e, .bool y.r.fd, .string (strB y.r.v), .slice y.p y.r.ls.length y.k, .string (strB y.r.nx), .bool y.r.mr] 93)
          have hrow4 : RowE (w3.alloc (.cells #[.int .i64 y.s, .int .i64 y.r.c, .int .i64 y.r.s, .int .i64 y.r.e, .bool y.r.fd, .string (strB y.r.v), .slice y.p y.r.ls.length y.k, .string (strB y.r.nx), .bool y.r.mr] 93)) (some ⟨w3.heap.size, 0, none⟩) [Y] := by rw [hY]; exact one_ent (new_block w3 _ _)
          unfold Ent.val
          clear hY hv3
          have hv3 : True := trivial
          generalize y.s = a0 at HAL hsz4 ho4 hrow4 ⊢
          generalize y.r.c = a1 at HAL hsz4 ho4 hrow4 ⊢
          generalize y.r.s = a2 at HAL hsz4 ho4 hrow4 ⊢
          generalize y.r.e = a3 at HAL hsz4 ho4 hrow4 ⊢
          generalize y.r.fd = a4 at HAL hsz4 ho4 hrow4 ⊢
          generalize strB y.r.v = a5 at HAL hsz4 ho4 hrow4 ⊢
          generalize y.r.ls.length = a6 at HAL hsz4 ho4 hrow4 ⊢
          generalize y.p = a7 at HAL hsz4 ho4 hrow4 ⊢
          generalize y.k = a8 at HAL hsz4 ho4 hrow4 ⊢
          generalize strB y.r.nx = a9 at HAL hsz4 ho4 hrow4 ⊢
          generalize y.r.mr = a10 at HAL hsz4 ho4 hrow4 ⊢
          clear hr3 hc3 hv3
          go_wp2_with (at_builtin; refine wpList_app_ents ent_once rfl _ _ rfl rfl ho4 (some ⟨w3.heap.size, 0, none⟩) 1 [Y] rfl hrow4 (fun h => by cases h) hls4 hsz4 ?_)
          intro v4 w4 hown4 hgrow _
          have HE4 := Lib.hid ((HE3.out.below HAL.out).grown ho4 hgrow)
          clear ho4 hrow4
          have HI4 := Lib.hid (show RiLast w gp F L N v4 m' w4 (rdR laC (.ok b)) (ys ++ [Y]) from by
            have hne : some gp ≠ (Value.slice q k d).ownBlock := fun e => by
              have := HO3.out.lt gp e.symm
              have := HG.out
              omega
            exact ⟨hown4, (HR3.out.below HAL.out).grown hgrow hne, Chg.grown hgrow (HC3.out.trans (Chg.of_below HAL.out)) (fun b hb => HO3.out.lt b hb), HR.out.pu.step (HC.out b) HV3.out, HE4.out⟩)
          clear hown4 hgrow
          go_wp2_with fail
          go_roundw
          case rel => exact ⟨m', _, _, by go_num, by omega, HI4⟩
          case measure => simp [RowKit.intOf]
end Go.Proofs.Ytbhojddakmgdmaa
namespace Go.Proofs.Ytbhojddakmgdmaa
open Go.RowKit

/-- a part that was packed, or was refused. -/
def partS (M : Nat) (st S : Option (List UInt8)) : Option (List UInt8) :=
  match S with
  | some b => textsS M st [b]
  | none => none
theorem textsS_none (M : Nat) : ∀ xs, textsS M none xs = none
  | [] => rfl
  | x :: xs => by
    show textsS M (textS M none x) xs = none
    have : textS M none x = none := by unfold textS; rw [numS_none]; rfl
    rw [this]; exact textsS_none M xs
theorem partS_len (M : Nat) (st S : Option (List UInt8)) : ((partS M st S).getD []).length ≤ (st.getD []).length + 4 + (S.getD []).length := by
  cases S with
  | none => show 0 ≤ _; omega
  | some b => exact textS_len M st b
/-- what is packed has 32,768 bytes at most. -/
theorem repS_len (r : RepL) : ((repS r).getD []).length ≤ 32768 := by
  have h : ∀ b, repS r = some b → b.length ≤ 32768 := fun b hb => layS_bd hb
  cases hr : repS r with
  | none => simp
  | some b => exact h b hr
theorem askS_len' (a : AskL) : ((askS a).getD []).length ≤ 32768 := by
  have h : ∀ b, askS a = some b → b.length ≤ 32768 := fun b hb => layS_bd (show layS 32768 _ _ = some b from hb)
  cases hr : askS a with
  | none => simp
  | some b => exact h b hr

theorem run_strB (w : World) (l : List UInt8) (p : Option Addr) (c : Nat) (hp : Row w .u8 p (nums l)) : (convert 22 9 (.slice p l.length c)).run Try.prog w = .ok (.string (strB l)) w := run_string w l p c hp
set_option maxHeartbeats 1000000 in
theorem part_any (w : World) (B g M : Nat) (st S : Option (List UInt8)) (p : Option Addr) (c : Nat) (hrow : Row w .u8 p (nums (S.getD []))) (hB : B ≤ w.heap.size) (h : PkAt w B g M st) (hM : M ≤ 9223372036854775807) (hr : M ≤ 1000000000000 ∨ (st.getD []).length + 4 + (S.getD []).length ≤ 1000000000000) :
    Calls Try.prog 53 #[.pointer (some ⟨g, 0, none⟩), .slice p (S.getD []).length c, .int .i64 (errP S)] w fun e w' => e = .returned (.tuple #[]) ∧ Laid w B g M (partS M st S) w' := by
  cases S with
  | some b =>
    simp only [Option.getD_some] at hrow hr ⊢
    have hcv := run_strB w b p c hrow
    have HL1 := Lib.hid ((Laid.refl h).alloc hB (.cells #[.string (strB b)] 9))
    have HC := Lib.hid (texts_any _ B g M w.heap.size st [b] (by have := HL1.out.bl.size; omega) HL1.out.pk hM (by have : sizeT [b] = 4 + b.length + 0 := rfl; omega) (new_block w _ _) (by simp))
    have HF := Lib.hid (show ∀ w', Laid w B g M (textsS M st [b]) w' → Laid w B g M (partS M st (some b)) w' from fun _ h => h)
    generalize partS M st (some b) = R at HF ⊢
    have he : errP (some b) = 0 := rfl
    rw [he]
    obtain ⟨n, hn⟩ : ∃ n, b.length = n := ⟨_, rfl⟩
    rw [hn] at hcv ⊢
    generalize hs : strB b = s at hcv HL1 HC
    clear h hr hM hB hrow he hn hs
    go_enter Try.func53, Try.ntmps53
    go_wp2_with fail
    refine HC.out.mono ?_
    rintro e w2 ⟨rfl, hl⟩
    have HL2 := Lib.hid (HF.out _ (HL1.out.trans hl))
    clear hl
    go_wp2_with fail
    exact bodyPost_end (v := .tuple #[]) (by simp [results, Try.results53]) rfl ⟨rfl, HL2.out⟩
  | none =>
    simp only [Option.getD_none] at hrow hr ⊢
    have CR := Lib.hid (refuse_any w B g M st h)
    have HM := Lib.hid hM
    have HB := Lib.hid hB
    have he : errP none = 1 := rfl
    rw [he, show ([] : List UInt8).length = 0 from rfl]
    clear h hr hM hB hrow he
    go_enter Try.func53, Try.ntmps53
    go_wp2_with fail
    refine CR.out.mono ?_
    rintro e w1 ⟨rfl, hl1⟩
    have hcv := run_strB w1 [] p c (Or.inl rfl)
    have hs1 : B ≤ w1.heap.size := Nat.le_trans HB.out hl1.bl.size
    have HL1 := Lib.hid (hl1.alloc HB.out (.cells #[.string (strB [])] 9))
    have HC := Lib.hid (texts_any _ B g M w1.heap.size none [[]] (by simp; omega) HL1.out.pk HM.out (Or.inr (by decide)) (new_block w1 _ _) (by simp))
    rw [textsS_none] at HC
    generalize hs : strB [] = s at hcv HL1 HC
    clear hl1 hs hs1
    rw [show ([] : List UInt8).length = 0 from rfl] at hcv
    go_wp2_with fail
    refine HC.out.mono ?_
    rintro e w2 ⟨rfl, hl⟩
    have HL2 := Lib.hid (show Laid w B g M (partS M st none) w2 from HL1.out.trans hl)
    clear hl
    go_wp2_with fail
    exact bodyPost_end (v := .tuple #[]) (by simp [results, Try.results53]) rfl ⟨rfl, HL2.out⟩
end Go.Proofs.Ytbhojddakmgdmaa
namespace Go.Proofs.Ytbhojddakmgdmaa
open Go.RowKit Go.Gz

set_option maxHeartbeats 4000000 in
theorem itemsLast_any {g : FuncId} {lb : Array Value} (eg : ∀ args w, (callFunc g args).run Try.prog w = .ok (.enter g args) w) (f : Option (List UInt8) → Ent → Option (List UInt8))
    (w0 w : World) (B gp M : Nat) (st : Option (List UInt8)) (ls : List Ent) (p : Option Addr) (cap : Nat) (hp : RowE w0 p ls) (hb0 : Below w0.heap.size w0 w) (hB0 : w0.heap.size ≤ B) (hB : B ≤ w.heap.size) (hpk : PkAt w B gp M st) (hM : M ≤ 9223372036854775807)
    (hr : M ≤ 1000000000000 ∨ (st.getD []).length + 4 ≤ 1000000000000) (hn : ls.length ≤ 1048576)
    (hone : ∀ k, k < ls.length → ∀ w1, B ≤ w1.heap.size → Below B w w1 → PkAt w1 B gp M ((ls.take k).foldl f (numsS M st [(ls.length : Int)])) →
      Calls Try.prog g (#[.pointer (some ⟨gp, 0, none⟩), Ent.val (ls.getD k default)] ++ lb) w1 fun e w' => e = .returned (.tuple #[]) ∧ Laid w1 B gp M (f ((ls.take k).foldl f (numsS M st [(ls.length : Int)])) (ls.getD k default)) w') :
    Calls Try.prog 59 #[.pointer (some ⟨gp, 0, none⟩), .slice p ls.length cap, .func (.func g) #[] lb] w fun e w' => e = .returned (.tuple #[]) ∧ Laid w B gp M (itemsS M f st ls) w' := by
  have hfn : ∀ w : World, (binOp .eql 111 (.func (.func g) #[] lb) .nilFunc).run Try.prog w = .ok (.bool false) w := fun _ => by kernel_rfl
  have HF := Lib.hid (show ∀ w', Laid w B gp M (ls.foldl f (numsS M st [(ls.length : Int)])) w' → Laid w B gp M (itemsS M f st ls) w' from fun _ h => h)
  generalize itemsS M f st ls = R at HF ⊢
  have hgt : decide ((1048576 : Int) < (ls.length : Int)) = false := by simp; omega
  have hnn : ls.length ≤ 1048576 := hn
  have HL1 := Lib.hid ((Laid.refl hpk).alloc hB (.cells #[.int .i64 (ls.length : Int)] 3))
  have CN := Lib.hid (numbers_any _ B gp M w.heap.size st [(ls.length : Int)] (by have := HL1.out.bl.size; omega) HL1.out.pk hM (by simpa using hr) (new_block w _ _) (by simp))
  obtain ⟨S0, hS0⟩ : ∃ S0, numsS M st [(ls.length : Int)] = S0 := ⟨_, rfl⟩
  rw [hS0] at HF CN hone
  have HP := Lib.hid hp
  have HB0 := Lib.hid hb0
  have HO := Lib.hid hone
  obtain ⟨n, hN⟩ : ∃ n, ls.length = n := ⟨_, rfl⟩
  rw [hN] at hgt hnn HL1 CN ⊢
  have HN := Lib.hid hN
  clear hp hb0 hone hN hS0 hpk hr hn
  go_enter Try.func59, Try.ntmps59
  go_wp2_with fail
  refine CN.out.mono ?_
  rintro e w1 ⟨rfl, hl1⟩
  have HL2 := Lib.hid (HL1.out.trans hl1)
  clear hl1
  go_wp2_with fail
  go_loopw [24] (fun i wr => ∃ k : Nat, k ≤ n ∧ i = .int .i64 k ∧ Hid (Laid w B gp M ((ls.take k).foldl f S0) wr)) (fun i _ => n - (RowKit.intOf i).toNat)
  case atStart => exact ⟨0, Nat.zero_le _, rfl, HL2⟩
  case round =>
    obtain ⟨k, hk, rfl, HLk⟩ := hrel
    by_cases hlt : k < n
    · have hltz : (k : Int) < (n : Int) := by omega
      obtain ⟨b, o, hpe, hbl, hcell⟩ := ent_cells HP.out (HB0.out.trans (HLk.out.bl.mono hB0)) (show k < ls.length by rw [HN.out]; exact hlt)
      subst hpe
      have HC := Lib.hid (HO.out k (by rw [HN.out]; exact hlt))
      have HS := Lib.hid (foldl_snoc f S0 ls k default (by rw [HN.out]; exact hlt))
      obtain ⟨x, hx⟩ : ∃ x, ls.getD k default = x := ⟨_, rfl⟩
      rw [hx] at hcell HC HS
      have z0 := hcell 0 (by decide)
      have z1 := hcell 1 (by decide)
      have z2 := hcell 2 (by decide)
      have z3 := hcell 3 (by decide)
      have z4 := hcell 4 (by decide)
      have z5 := hcell 5 (by decide)
      have z6 := hcell 6 (by decide)
      have z7 := hcell 7 (by decide)
      have z8 := hcell 8 (by decide)
      obtain ⟨X, hX⟩ : ∃ X, x = X := ⟨_, rfl⟩
      rw [hX] at HS
      simp only [Ent.list, Nat.add_zero] at z0 z1 z2 z3 z4 z5 z6 z7 z8
      have HC := Lib.hid (show ∀ w1, B ≤ w1.heap.size → Below B w w1 → PkAt w1 B gp M ((ls.take k).foldl f S0) → Calls Try.prog g (#[.pointer (some ⟨gp, 0, none⟩), .agg #[.int .i64 x.s, .int .i64 x.r.c, .int .i64 x.r.s, .int .i64 x.r.e, .bool x.r.fd, .string (strB x.r.v), .slice x.p x.r.ls.length x.k, .string (strB x.r.nx), .bool x.r.mr]] ++ lb) w1 fun e w' => e = .returned (.tuple #[]) ∧ Laid w1 B gp M (f ((ls.take k).foldl f S0) X) w' by rw [← hX]; exact HC.out)
      clear hX
      generalize x.s = a0 at z0 HC
      generalize x.r.c = a1 at z1 HC
      generalize x.r.s = a2 at z2 HC
      generalize x.r.e = a3 at z3 HC
      generalize x.r.fd = a4 at z4 HC
      generalize strB x.r.v = a5 at z5 HC
      generalize x.r.ls.length = a6 at z6 HC
      generalize x.p = a7 at z6 HC
      generalize x.k = a8 at z6 HC
      generalize strB x.r.nx = a9 at z7 HC
      generalize x.r.mr = a10 at z8 HC
      clear hx hbl hcell
      have HLa := Lib.hid (HLk.out.alloc hB (.cells #[.int .i64 a0, .int .i64 a1, .int .i64 a2, .int .i64 a3, .bool a4, .string a5, .slice a7 a6 a8, .string a9, .bool a10] 93))
      have HC1 := Lib.hid (HC.out _ (Nat.le_trans hB HLa.out.bl.size) HLa.out.bl HLa.out.pk)
      clear HC
      go_wp2_with fail
      refine HC1.out.mono ?_
      rintro e w3 ⟨rfl, hl3⟩
      have HL3 := Lib.hid (HLa.out.trans hl3)
      rw [← HS.out] at HL3
      clear hl3
      go_wp2_with fail
      go_roundw
      case rel => exact ⟨k + 1, by omega, by go_num, HL3⟩
      case measure => simp [RowKit.intOf]; omega
    · obtain rfl : k = n := by omega
      have hltz : ¬ (k : Int) < (k : Int) := by omega
      have HL4 := Lib.hid (HF.out wr (by
        have := HLk.out
        rwa [← HN.out, List.take_length] at this))
      go_wp2_with fail
      exact bodyPost_end (v := .tuple #[]) (by simp [results, Try.results59]) rfl ⟨rfl, HL4.out⟩

set_option maxHeartbeats 4000000 in
theorem itemsShard_any {g : FuncId} {lb : Array Value} (eg : ∀ args w, (callFunc g args).run Try.prog w = .ok (.enter g args) w) (f : Option (List UInt8) → Sd → Option (List UInt8))
    (w0 w : World) (B gp M : Nat) (st : Option (List UInt8)) (ls : List Sd) (p : Option Addr) (cap : Nat) (hp : RowK KS w0 p ls) (hb0 : Below w0.heap.size w0 w) (hB0 : w0.heap.size ≤ B) (hB : B ≤ w.heap.size) (hpk : PkAt w B gp M st) (hM : M ≤ 9223372036854775807)
    (hr : M ≤ 1000000000000 ∨ (st.getD []).length + 4 ≤ 1000000000000) (hn : ls.length ≤ 1048576)
    (hone : ∀ k, k < ls.length → ∀ w1, B ≤ w1.heap.size → Below B w w1 → PkAt w1 B gp M ((ls.take k).foldl f (numsS M st [(ls.length : Int)])) →
      Calls Try.prog g (#[.pointer (some ⟨gp, 0, none⟩), valSd (ls.getD k default)] ++ lb) w1 fun e w' => e = .returned (.tuple #[]) ∧ Laid w1 B gp M (f ((ls.take k).foldl f (numsS M st [(ls.length : Int)])) (ls.getD k default)) w') :
    Calls Try.prog 61 #[.pointer (some ⟨gp, 0, none⟩), .slice p ls.length cap, .func (.func g) #[] lb] w fun e w' => e = .returned (.tuple #[]) ∧ Laid w B gp M (itemsS M f st ls) w' := by
  have hfn : ∀ w : World, (binOp .eql 113 (.func (.func g) #[] lb) .nilFunc).run Try.prog w = .ok (.bool false) w := fun _ => by kernel_rfl
  have HF := Lib.hid (show ∀ w', Laid w B gp M (ls.foldl f (numsS M st [(ls.length : Int)])) w' → Laid w B gp M (itemsS M f st ls) w' from fun _ h => h)
  generalize itemsS M f st ls = R at HF ⊢
  have hgt : decide ((1048576 : Int) < (ls.length : Int)) = false := by simp; omega
  have hnn : ls.length ≤ 1048576 := hn
  have HL1 := Lib.hid ((Laid.refl hpk).alloc hB (.cells #[.int .i64 (ls.length : Int)] 3))
  have CN := Lib.hid (numbers_any _ B gp M w.heap.size st [(ls.length : Int)] (by have := HL1.out.bl.size; omega) HL1.out.pk hM (by simpa using hr) (new_block w _ _) (by simp))
  obtain ⟨S0, hS0⟩ : ∃ S0, numsS M st [(ls.length : Int)] = S0 := ⟨_, rfl⟩
  rw [hS0] at HF CN hone
  have HP := Lib.hid hp
  have HB0 := Lib.hid hb0
  have HO := Lib.hid hone
  obtain ⟨n, hN⟩ : ∃ n, ls.length = n := ⟨_, rfl⟩
  rw [hN] at hgt hnn HL1 CN ⊢
  have HN := Lib.hid hN
  clear hp hb0 hone hN hS0 hpk hr hn
  go_enter Try.func61, Try.ntmps61
  go_wp2_with fail
  refine CN.out.mono ?_
  rintro e w1 ⟨rfl, hl1⟩
  have HL2 := Lib.hid (HL1.out.trans hl1)
  clear hl1
  go_wp2_with fail
  go_loopw [24] (fun i wr => ∃ k : Nat, k ≤ n ∧ i = .int .i64 k ∧ Hid (Laid w B gp M ((ls.take k).foldl f S0) wr)) (fun i _ => n - (RowKit.intOf i).toNat)
  case atStart => exact ⟨0, Nat.zero_le _, rfl, HL2⟩
  case round =>
    obtain ⟨k, hk, rfl, HLk⟩ := hrel
    by_cases hlt : k < n
    · have hltz : (k : Int) < (n : Int) := by omega
      obtain ⟨b, o, hpe, hbl, hcell⟩ := RowK.cells HP.out (HB0.out.trans (HLk.out.bl.mono hB0)) (show k < ls.length by rw [HN.out]; exact hlt)
      subst hpe
      have HC := Lib.hid (HO.out k (by rw [HN.out]; exact hlt))
      have HS := Lib.hid (foldl_snoc f S0 ls k default (by rw [HN.out]; exact hlt))
      obtain ⟨x, hx⟩ : ∃ x, ls.getD k default = x := ⟨_, rfl⟩
      rw [hx] at hcell HC HS
      have z0 := hcell 0 (by decide)
      have z1 := hcell 1 (by decide)
      have z2 := hcell 2 (by decide)
      have z3 := hcell 3 (by decide)
      simp only [KS, Nat.add_zero] at z0 z1 z2 z3
      obtain ⟨X, hX⟩ : ∃ X, x = X := ⟨_, rfl⟩
      rw [hX] at HS
      have HC := Lib.hid (show ∀ w1, B ≤ w1.heap.size → Below B w w1 → PkAt w1 B gp M ((ls.take k).foldl f S0) → Calls Try.prog g (#[.pointer (some ⟨gp, 0, none⟩), .agg #[.string x.sp.f, .string x.sp.t, .int .i64 x.n, .int .i64 x.e]] ++ lb) w1 fun e w' => e = .returned (.tuple #[]) ∧ Laid w1 B gp M (f ((ls.take k).foldl f S0) X) w' by rw [← hX]; exact HC.out)
      clear hX
      generalize x.sp.f = a0 at z0 HC
      generalize x.sp.t = a1 at z1 HC
      generalize x.n = a2 at z2 HC
      generalize x.e = a3 at z3 HC
      clear hx hbl hcell
      have HLa := Lib.hid (HLk.out.alloc hB (.cells #[.string a0, .string a1, .int .i64 a2, .int .i64 a3] 68))
      have HC1 := Lib.hid (HC.out _ (Nat.le_trans hB HLa.out.bl.size) HLa.out.bl HLa.out.pk)
      clear HC
      go_wp2_with fail
      refine HC1.out.mono ?_
      rintro e w3 ⟨rfl, hl3⟩
      have HL3 := Lib.hid (HLa.out.trans hl3)
      rw [← HS.out] at HL3
      clear hl3
      go_wp2_with fail
      go_roundw
      case rel => exact ⟨k + 1, by omega, by go_num, HL3⟩
      case measure => simp [RowKit.intOf]; omega
    · obtain rfl : k = n := by omega
      have hltz : ¬ (k : Int) < (k : Int) := by omega
      have HL4 := Lib.hid (HF.out wr (by
        have := HLk.out
        rwa [← HN.out, List.take_length] at this))
      go_wp2_with fail
      exact bodyPost_end (v := .tuple #[]) (by simp [results, Try.results61]) rfl ⟨rfl, HL4.out⟩
end Go.Proofs.Ytbhojddakmgdmaa
