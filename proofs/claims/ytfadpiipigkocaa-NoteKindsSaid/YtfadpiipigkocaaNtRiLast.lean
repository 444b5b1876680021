/-
  Layer note: a last answer taken; ReadItems at last answers.
-/
import Derived.Test.YtfadpiipigkocaaPcPart2
import Derived.Test.YtfadpiipigkocaaMg08
namespace Go.Proofs.Ytfadpiipigkocaa
open Go.RowKit Go.Gz

abbrev RepT := Nat × Nat × Nat × Bool × List UInt8 × List (List UInt8 × List UInt8) × List UInt8 × Bool
abbrev LaT := Nat × RepT
def laC : Codec LaT := numC.pair (replyC.part 32768)
def laOf (x : LaT) : Int × RepL := ((x.1 : Int), repT x.2)
def laZ : LaT := (0, (0, 0, 0, false, [], [], [], false))
theorem la_seq (st : St) : rdR laC st = rdR (replyC.part 32768) (rdR numC st) := by unfold laC; rw [rdR_pair]
theorem la_val (st : St) {r : List UInt8} (h : rdR laC st = .ok r) : rdV laC laZ st = (rdV numC 0 st, rdV (replyC.part 32768) (0, 0, 0, false, [], [], [], false) (rdR numC st)) := by
  unfold laC at h ⊢
  rw [rdV_pair _ _ _ _ h]
  rfl
theorem num_short {b r : List UInt8} (h : rdR numC (.ok b) = .ok r) : r.length + 4 ≤ b.length := by
  cases hd : numC.dec b with
  | error e => rw [rdR_no hd] at h; cases h
  | ok x =>
    obtain ⟨n, s⟩ := x
    rw [rdR_ok hd] at h
    injection h with h
    subst h
    have h : decN b = .ok (n, s) := hd
    unfold decN at h
    by_cases h4 : b.length < 4
    · rw [if_pos h4] at h; cases h
    · rw [if_neg h4] at h
      by_cases h5 : 268435456 ≤ numL (b.take 4)
      · rw [if_pos h5] at h; cases h
      · rw [if_neg h5] at h
        injection h with h
        injection h with _ h
        rw [← h, List.length_drop]; omega
theorem la_short {b r : List UInt8} (h : rdR laC (.ok b) = .ok r) : r.length + 1 ≤ b.length := by
  rw [la_seq] at h
  cases h1 : rdR numC (.ok b) with
  | error e => rw [h1] at h; cases h
  | ok s =>
    have h2 := num_short h1
    have h3 := rest_part 32768 replyC (.ok s)
    rw [h1] at h
    rw [h] at h3
    have e1 : (restS (.ok s)).length = s.length := rfl
    have e2 : (restS (.ok r)).length = r.length := rfl
    omega
theorem infoLast9 : (Try.prog.info? 84).map (·.size) = some 9 := by kernel_rfl
/-- what takeLast answers. -/
def RetLa1 (gp : Nat) (st : St) (w : World) (e : Ending) (w' : World) : Prop :=
  ∃ y : Ent, e = .returned y.val ∧ Recs w' y.p y.r.ls ∧ RecN w.heap.size w' y.p ∧ RdAt w' gp (rdR laC st) ∧ Chg gp w w' ∧ (∀ r, rdR laC st = .ok r → y.sem = laOf (rdV laC laZ st))
set_option maxHeartbeats 2000000 in
set_option maxRecDepth 100000 in
theorem takeLast_any (w : World) (gp : Nat) (st : St) (h : RdAt w gp st) : Calls Try.prog 61 #[.pointer (some ⟨gp, 0, none⟩)] w (RetLa1 gp st w) := by
  have hgl := h.lt
  have HSV := Lib.hid (fun r (hr : rdR laC st = .ok r) => la_val st hr)
  have HSQ := Lib.hid (la_seq st)
  obtain ⟨Z, hZ⟩ : ∃ Z : Array Value, #[.int .i64 0, .int .i64 0, .int .i64 0, .int .i64 0, .bool false, .string ⟨#[]⟩, .slice none 0 0, .string ⟨#[]⟩, .bool false] = Z := ⟨_, rfl⟩
  have hZs : Z.size = 9 := by rw [← hZ]; rfl
  have hal : Below w.heap.size w (w.alloc (.cells Z 84)) := (Below.refl _ _).alloc (Nat.le_refl _) _
  obtain ⟨W1, hW1⟩ : ∃ W1, w.alloc (.cells Z 84) = W1 := ⟨_, rfl⟩
  have HA1 := Lib.hid (show W1.heap[w.heap.size]? = some (.cells Z 84 (0, 0)) from hW1 ▸ new_block _ _ _)
  have HZ1 := Lib.hid (show W1.heap.size = w.heap.size + 1 by rw [← hW1]; simp)
  have HB1 := Lib.hid (show Below w.heap.size w W1 from hW1 ▸ hal)
  have C1 := Lib.hid (pcNumber_any W1 gp st (h.below HB1.out))
  have C2 := Lib.hid (fun w1 h1 => readPartReply w1 gp (rdR numC st) h1)
  have HG := Lib.hid hgl
  have HW1 := Lib.hid hW1
  have HZ := Lib.hid hZ
  have HZS := Lib.hid hZs
  clear h hal hgl hW1 hZ hZs
  unfold RetPtReply at C2
  obtain ⟨n1, hn1⟩ : ∃ n, rdV numC 0 st = n := ⟨_, rfl⟩
  obtain ⟨S1, hS1⟩ : ∃ S, rdR numC st = S := ⟨_, rfl⟩
  rw [hn1, hS1] at C1
  rw [hS1] at C2 HSQ
  have HN := Lib.hid (And.intro hn1 hS1)
  clear hn1 hS1
  go_enter Try.func61, Try.ntmps61
  go_upto_region 1 with fail
  rw [HZ.out, HW1.out]
  go_wp2_with fail
  refine C1.out.mono ?_
  rintro e w2 ⟨rfl, hr2, hc2⟩
  have HC2 := Lib.hid hc2
  have C3 := Lib.hid (C2.out w2 hr2)
  clear hr2 hc2
  go_wp2_with fail
  refine C3.out.mono ?_
  rintro e w3 ⟨r, q, d, rfl, hr3, hc3, hrec, hrn, hv⟩
  have HC3 := Lib.hid (HC2.out.trans hc3)
  have HA3 := Lib.hid (show w3.heap[w.heap.size]? = some (.cells Z 84 (0, 0)) by rw [HC3.out.block _ (by rw [HZ1.out]; omega) (by have := HG.out; omega)]; exact HA1.out)
  obtain ⟨V, hV⟩ : ∃ V : Array Value, #[.int .i64 (n1 : Nat), .int .i64 r.c, .int .i64 r.s, .int .i64 r.e, .bool r.fd, .string (strB r.v), .slice q r.ls.length d, .string (strB r.nx), .bool r.mr] = V := ⟨_, rfl⟩
  have hVs : V.size = 9 := by rw [← hV]; rfl
  have HVI := Lib.hid (show (Try.prog.info? 84).map (·.size) = some V.size by rw [hVs]; exact infoLast9)
  have HVO := Lib.hid (show V.all (·.oneCell') = true by rw [← hV]; simp [Value.oneCell'])
  have HVZ := Lib.hid (show Z.size = V.size by rw [HZS.out, hVs])
  have hA4 : (w3.setRow w.heap.size V).heap[w.heap.size]? = some (.cells V 84 (0, 0)) := setRow_heap _ _ _ _ _ _ HA3.out
  have HA4 := Lib.hid hA4
  have hs2 : w.heap.size + 1 ≤ w2.heap.size := by have := HC2.out.size; rw [HZ1.out] at this; exact this
  have HQ := Lib.hid (show RetLa1 gp st w (.returned (.agg V)) (w3.setRow w.heap.size V) from ⟨⟨(n1 : Nat), r, q, d⟩, by rw [← hV]; rfl,
    hrec.move (by rw [size_setRow]; exact Nat.le_refl _) (fun b off hb _ => setRow_other (by have := (hrn b off hb).1; omega)),
    hrn.move (by omega) (fun b off hb _ => setRow_other (by have := (hrn b off hb).1; omega)),
    by rw [HSQ.out]; exact ⟨hr3.bd, by rw [setRow_other (by have := HG.out; omega)]; exact hr3.at_⟩,
    ⟨HC3.out.os.trans HB1.out.os, HC3.out.tape.trans HB1.out.tape, HC3.out.output.trans HB1.out.output, by rw [size_setRow]; have := HC3.out.size; have := HB1.out.size; omega, fun k hk hg => by rw [setRow_other (by omega), HC3.out.block k (by rw [HZ1.out]; omega) hg, HB1.out.block k hk]⟩,
    fun s hs => by
      rw [HSV.out s hs]
      rw [HSQ.out] at hs
      rw [HN.out.1, HN.out.2, show (⟨(n1 : Nat), r, q, d⟩ : Ent).sem = ((n1 : Int), r) from rfl, hv s hs]; rfl⟩)
  unfold repV
  have HV := Lib.hid hV
  clear hr3 hc3 hrec hrn hv hVs hA4 hs2 hV
  generalize r.c = a1 at HV ⊢
  generalize r.s = a2 at HV ⊢
  generalize r.e = a3 at HV ⊢
  generalize r.fd = a4 at HV ⊢
  generalize strB r.v = a5 at HV ⊢
  generalize r.ls.length = a6 at HV ⊢
  generalize strB r.nx = a7 at HV ⊢
  generalize r.mr = a8 at HV ⊢
  go_wp2_with (refine wpList_store_row rfl 84 (.tmp 2) (.tmp 7) rfl w.heap.size V rfl (congrArg Value.agg HV.out) 84 Z HA3.out HVI.out HVZ.out HVO.out ?_)
  exact bodyPost_ret (v := .agg V) (results_cell_row rfl _ _ w.heap.size 84 V (0, 0) _ rfl HA4.out Try.underlying84 rfl HVI.out) rfl HQ.out

abbrev OwnLa (w : World) (B : Nat) (v : Value) (L : List Ent) : Prop := OwnE w B 84 v L
theorem Kept.of_chg {g : Nat} {w w' : World} (h : Chg g w w') : Kept (fun k => k = g) w w' := ⟨h.os, h.tape, h.output, h.size, h.block⟩
/-- the entries' records lie in blocks of records, from B on. -/
def EntsN (B : Nat) (w : World) (ys : List Ent) : Prop := ∀ y ∈ ys, Recs w y.p y.r.ls ∧ RecN B w y.p
theorem EntsN.move {B : Nat} {w w' : World} {ys : List Ent} (h : EntsN B w ys) (hs : w.heap.size ≤ w'.heap.size) (hk : ∀ b cs fz, B ≤ b → w.heap[b]? = some (.cells cs 47 fz) → w'.heap[b]? = w.heap[b]?) : EntsN B w' ys := fun y hy => by
  obtain ⟨h1, h2⟩ := h y hy
  have hb : ∀ b off, y.p = some ⟨b, off, none⟩ → b < w.heap.size → w'.heap[b]? = w.heap[b]? := fun b off hp _ => by
    obtain ⟨h3, cs, fz, h4⟩ := h2 b off hp
    exact hk b cs fz h3 h4
  exact ⟨h1.move hs hb, h2.move (Nat.le_refl _) hb⟩
theorem EntsN.chg {B g : Nat} {w w' : World} {ys : List Ent} (h : EntsN B w ys) (hc : Chg g w w') (hg : g < B) : EntsN B w' ys := h.move hc.size fun b cs fz hb hh => hc.block b (Array.getElem?_eq_some_iff.1 hh).1 (by omega)
theorem EntsN.below {B : Nat} {w w' : World} {ys : List Ent} (h : EntsN B w ys) (hb : Below w.heap.size w w') : EntsN B w' ys := h.move hb.size fun b _ _ _ hh => hb.block b (Array.getElem?_eq_some_iff.1 hh).1
theorem EntsN.grown {B : Nat} {w w' : World} {ys L : List Ent} {v : Value} (h : EntsN B w ys) (ho : OwnLa w B v L) (hg : w.grownBy w' v.ownBlock) : EntsN B w' ys := h.move hg.size fun b cs fz hb hh => hg.block b (Array.getElem?_eq_some_iff.1 hh).1 fun e => by
  obtain ⟨cs', fz', h'⟩ := ho.type b e.symm
  rw [hh] at h'
  injection h' with h'
  injection h' with _ h' _
  exact absurd h' (by decide)
theorem EntsN.snoc {B : Nat} {w : World} {ys : List Ent} {y : Ent} (h : EntsN B w ys) (h1 : Recs w y.p y.r.ls) (h2 : RecN B w y.p) : EntsN B w (ys ++ [y]) := fun z hz => by
  rcases List.mem_append.1 hz with hz | hz
  · exact h z hz
  · rw [List.mem_singleton] at hz; subst hz; exact ⟨h1, h2⟩
/-- what ReadItems answers at Last. -/
def RetItLast (w : World) (gp : Nat) (st : St) (e : Ending) (w' : World) : Prop :=
  ∃ v ys, e = .returned v ∧ OwnLa w' w.heap.size v ys ∧ RdAt w' gp (rdR (Codec.list laC) st) ∧ Chg gp w w' ∧ (∀ r, rdR (Codec.list laC) st = .ok r → ys.map Ent.sem = (rdV (Codec.list laC) [] st).map laOf) ∧ EntsN w.heap.size w' ys
structure RiLast (w : World) (gp : Nat) (F : St) (L : List (Int × RepL)) (N : Nat) (v : Value) (m : Nat) (wr : World) (s : St) (ys : List Ent) : Prop where
  own : OwnLa wr w.heap.size v ys
  rd : RdAt wr gp s
  ch : Chg gp w wr
  pu : ItI laC laZ Ent.sem laOf F L N m s ys
  ins : EntsN w.heap.size wr ys

set_option maxHeartbeats 4000000 in
theorem readItemsLast {g : FuncId} {lb : Array Value} (eg : ∀ args w, (callFunc g args).run Try.prog w = .ok (.enter g args) w) (w : World) (gp : Nat) (st : St) (h : RdAt w gp st) (hl : (restS st).length ≤ 99999999)
    (hC : ∀ b r, rdR laC (.ok b) = .ok r → r.length + 1 ≤ b.length)
    (hone : ∀ w1 b, Chg gp w w1 → RdAt w1 gp (.ok b) → b.length ≤ (restS st).length → Calls Try.prog g (#[.pointer (some ⟨gp, 0, none⟩)] ++ lb) w1 (RetLa1 gp (.ok b) w1)) :
    Calls Try.prog 60 #[.pointer (some ⟨gp, 0, none⟩), .func (.func g) #[] lb] w (RetItLast w gp st) := by
  have hfn : ∀ w : World, (binOp .eql 114 (.func (.func g) #[] lb) .nilFunc).run Try.prog w = .ok (.bool false) w := fun _ => by kernel_rfl
  have hgl := h.lt
  have HF := Lib.hid (show ∀ v ys w', OwnLa w' w.heap.size v ys → RdAt w' gp (rdR (Codec.list laC) st) → Chg gp w w' → (∀ r, rdR (Codec.list laC) st = .ok r → ys.map Ent.sem = (rdV (Codec.list laC) [] st).map laOf) → EntsN w.heap.size w' ys → RetItLast w gp st (.returned v) w' from fun v ys w' h1 h2 h3 h4 h5 => ⟨v, ys, rfl, h1, h2, h3, h4, h5⟩)
  have CN := Lib.hid (pcNumber_any w gp st h)
  obtain ⟨n, hn⟩ : ∃ n, rdV numC 0 st = n := ⟨_, rfl⟩
  obtain ⟨S, hS1⟩ : ∃ S, rdR numC st = S := ⟨_, rfl⟩
  obtain ⟨N, hN⟩ : ∃ N, (restS st).length = N := ⟨_, rfl⟩
  have hst := ItI.start (C := laC) (d := laZ) (g := Ent.sem) (h := laOf) (N := N) hn hS1 (by rw [← hS1, ← hN]; exact rest_num st)
  have hnb : n ≤ 268435455 := hn ▸ rdV_num_le st
  have HERR := Lib.hid (show ∀ e0, S = .error e0 → rdR (Codec.list laC) st = .error e0 from fun e0 he => by
    obtain ⟨h1, _⟩ := list_seq laC laZ st
    rw [h1, hS1, he]; exact iterR_err _ _ _)
  obtain ⟨F, hF⟩ : ∃ F, rdR (Codec.list laC) st = F := ⟨_, rfl⟩
  obtain ⟨L, hL⟩ : ∃ L, (rdV (Codec.list laC) [] st).map laOf = L := ⟨_, rfl⟩
  rw [hF, hL] at HF hst
  rw [hF] at HERR
  rw [hn, hS1] at CN
  rw [hN] at hl
  have HST := Lib.hid hst
  have HONE := Lib.hid (hN ▸ hone)
  have HC := Lib.hid hC
  have HNL := Lib.hid hl
  have HG := Lib.hid hgl
  clear h hst hF hL hN hn hS1 hone hC hl hgl
  go_enter Try.func60, Try.ntmps60
  go_wp2_with fail
  refine CN.out.mono ?_
  rintro e w1 ⟨rfl, hr1, hc1⟩
  have hat1 := hr1.at_
  have c1 := cell_at hat1 1
  clear hat1
  have HR1 := Lib.hid hr1
  have HC1 := Lib.hid hc1
  clear hr1 hc1 CN
  cases S with
  | error e0 =>
    have h0 := HR1.out.bd e0 rfl
    have h0z : ((e0 : Int) != 0) = true := by simp; omega
    simp only [errS] at c1
    have HP := Lib.hid (HF.out (.slice none 0 0) [] w1 (OwnE.nil _ _ _) (by rw [HERR.out e0 rfl]; exact HR1.out) HC1.out (fun r hr => by rw [HERR.out e0 rfl] at hr; cases hr) (fun y hy => by cases hy))
    clear h0
    go_wp2_with fail
    go_ret
    exact HP.out
  | ok b0 =>
    simp only [errS] at c1
    have HI := Lib.hid (show RiLast w gp F L N (.slice none 0 0) n w1 (.ok b0) [] from ⟨OwnE.nil _ _ _, HR1.out, HC1.out, HST.out, (fun y hy => by cases hy)⟩)
    clear HERR HST HR1 HC1
    go_wp2_with fail
    clear c1
    go_loopw [5, 6] (fun i v wr => ∃ (m : Nat) (s : St) (ys : List Ent), i = .int .i64 m ∧ m ≤ 268435455 ∧ Hid (RiLast w gp F L N v m wr s ys)) (fun i _ _ => (RowKit.intOf i).toNat)
    case atStart => exact ⟨n, .ok b0, [], rfl, hnb, HI⟩
    case round =>
      obtain ⟨m, s, ys, rfl, hmb, HR⟩ := hrel
      have hat := HR.out.rd.at_
      have c1 := cell_at hat 1
      clear hat
      cases s with
      | error e0 =>
        have h0 := HR.out.rd.bd e0 rfl
        have h0z : ((e0 : Int) == 0) = false := by simp; omega
        have h0y : ((e0 : Int) != 0) = true := by simp; omega
        simp only [errS] at c1
        have HP := Lib.hid (HF.out (.slice none 0 0) [] wr (OwnE.nil _ _ _) (by rw [HR.out.pu.err]; exact HR.out.rd) HR.out.ch (fun r hr => by rw [HR.out.pu.err] at hr; cases hr) (fun y hy => by cases hy))
        clear h0
        by_cases hm : m = 0
        · subst hm
          go_wp2_with fail
          go_ret
          exact HP.out
        · have hmz : decide ((m : Int) > 0) = true := by simp; omega
          go_wp2_with fail
          go_ret
          exact HP.out
      | ok b =>
        simp only [errS] at c1
        by_cases hm : m = 0
        · subst hm
          have HP := Lib.hid (HF.out _ ys wr HR.out.own (HR.out.pu.done.1 ▸ HR.out.rd) HR.out.ch HR.out.pu.done.2 HR.out.ins)
          obtain ⟨q, d, rfl, -⟩ := HR.out.own.row
          go_wp2_with fail
          go_ret
          exact HP.out
        · have hmz : decide ((m : Int) > 0) = true := by simp; omega
          obtain ⟨m', rfl⟩ : ∃ m', m = m' + 1 := ⟨m - 1, by omega⟩
          have C1 := Lib.hid (HONE.out wr b HR.out.ch HR.out.rd (by have := HR.out.pu.lt ⟨b, rfl⟩; have e : (restS (.ok b)).length = b.length := rfl; omega))
          obtain ⟨q, d, rfl, -⟩ := HR.out.own.row
          have hls : ys.length ≤ 99999999 := by have := HR.out.pu.lt ⟨b, rfl⟩; have := HNL.out; omega
          have hls1 : ys.length + 1 ≤ 100000001 := by omega
          have HLS := Lib.hid hls
          clear hls1 hm
          obtain ⟨k, hk⟩ : ∃ k, ys.length = k := ⟨_, rfl⟩
          have HOW := Lib.hid (hk ▸ HR.out.own)
          rw [hk]
          have HK := Lib.hid hk
          clear hk hls
          go_wp2_with fail
          refine C1.out.mono ?_
          rintro e w3 ⟨y, rfl, hrc3, hrn3, hr3, hc3, hv3⟩
          have HC3 := Lib.hid (HR.out.ch.trans hc3)
          have HR3 := Lib.hid hr3
          have HO3 := Lib.hid (HOW.out.kept (Kept.of_chg hc3) fun b hb hg => by have := HOW.out.lt b hb; have := HG.out; omega)
          have HV3 := Lib.hid hv3
          have HZ := Lib.hid (show w.heap.size ≤ w3.heap.size from HC3.out.size)
          obtain ⟨Y, hY⟩ : ∃ Y, Y = y := ⟨y, rfl⟩
          have HE3 := Lib.hid (show EntsN w.heap.size w3 (ys ++ [Y]) by rw [hY]; exact (HR.out.ins.chg hc3 HG.out).snoc hrc3 (hrn3.move HR.out.ch.size (fun _ _ _ _ => rfl)))
          have HV3 := Lib.hid (show ∀ r, rdR laC (.ok b) = .ok r → Y.sem = laOf (rdV laC laZ (.ok b)) by rw [hY]; exact hv3)
          clear hrc3 hrn3
          have HAL := Lib.hid (show Below w3.heap.size w3 (w3.alloc (.cells #[.int .i64 y.s, .int .i64 y.r.c, .int .i64 y.r.s, .int .i64 y.r.e, .bool y.r.fd, .string (strB y.r.v), .slice y.p y.r.ls.length y.k, .string (strB y.r.nx), .bool y.r.mr] 84)) from (Below.refl _ _).alloc (Nat.le_refl _) _)
          have hsz4 : w.heap.size ≤ (w3.alloc (.cells #[.int .i64 y.s, .int .i64 y.r.c, .int .i64 y.r.s, .int .i64 y.r.e, .bool y.r.fd, .string (strB y.r.v), .slice y.p y.r.ls.length y.k, .string (strB y.r.nx), .bool y.r.mr] 84)).heap.size := by rw [World.size_alloc]; have := HZ.out; omega
          have hls4 : ys.length + [Y].length ≤ 1000000000000 := by have := HLS.out; simp only [List.length_singleton]; omega
          have ho4 := HO3.out.alloc (.cells #[.int .i64 y.s, .int .i64 y.r.c, .int .i64 y.r.s, .int .i64 y.r.e, .bool y.r.fd, .string (strB y.r.v), .slice y.p y.r.ls.length y.k, .string (strB y.r.nx), .bool y.r.mr] 84)
          have hrow4 : RowE (w3.alloc (.cells #[.int .i64 y.s, .int .i64 y.r.c, .int .i64 y.r.s, .int .i64 y.r.e, .bool y.r.fd, .string (strB y.r.v), .slice y.p y.r.ls.length y.k, .string (strB y.r.nx), .bool y.r.mr] 84)) (some ⟨w3.heap.size, 0, none⟩) [Y] := by rw [hY]; exact one_ent (new_block w3 _ _)
          unfold Ent.val
          clear hY hv3
          have hv3 : True := trivial
          generalize y.s = a0 at HAL hsz4 ho4 hrow4 ⊢
          generalize y.r.c = a1 at HAL hsz4 ho4 hrow4 ⊢
          generalize y.r.s = a2 at HAL hsz4 ho4 hrow4 ⊢
          generalize y.r.e = a3 at HAL hsz4 ho4 hrow4 ⊢
          generalize y.r.fd = a4 at HAL hsz4 ho4 hrow4 ⊢
          generalize strB y.r.v = a5 at HAL hsz4 ho4 hrow4 ⊢
          generalize y.r.ls.length = a6 at HAL hsz4 ho4 hrow4 ⊢
          generalize y.p = a7 at HAL hsz4 ho4 hrow4 ⊢
          generalize y.k = a8 at HAL hsz4 ho4 hrow4 ⊢
          generalize strB y.r.nx = a9 at HAL hsz4 ho4 hrow4 ⊢
          generalize y.r.mr = a10 at HAL hsz4 ho4 hrow4 ⊢
          clear hr3 hc3 hv3
          go_wp2_with (at_builtin; refine wpList_app_ents ent_once rfl _ _ rfl rfl ho4 (some ⟨w3.heap.size, 0, none⟩) 1 [Y] rfl hrow4 (fun h => by cases h) hls4 hsz4 ?_)
          intro v4 w4 hown4 hgrow _
          have HE4 := Lib.hid ((HE3.out.below HAL.out).grown ho4 hgrow)
          clear ho4 hrow4
          have HI4 := Lib.hid (show RiLast w gp F L N v4 m' w4 (rdR laC (.ok b)) (ys ++ [Y]) from by
            have hne : some gp ≠ (Value.slice q k d).ownBlock := fun e => by
              have := HO3.out.lt gp e.symm
              have := HG.out
              omega
            exact ⟨hown4, (HR3.out.below HAL.out).grown hgrow hne, Chg.grown hgrow (HC3.out.trans (Chg.of_below HAL.out)) (fun b hb => HO3.out.lt b hb), HR.out.pu.step (HC.out b) HV3.out, HE4.out⟩)
          clear hown4 hgrow
          go_wp2_with fail
          go_roundw
          case rel => exact ⟨m', _, _, by go_num, by omega, HI4⟩
          case measure => simp [RowKit.intOf]
end Go.Proofs.Ytfadpiipigkocaa
