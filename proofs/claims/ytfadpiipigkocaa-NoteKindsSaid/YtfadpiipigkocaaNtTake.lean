/-
  Layer note: a note's bytes as a codec; take.
-/
import Derived.Test.YtfadpiipigkocaaNtRiShard
import Derived.Test.YtfadpiipigkocaaNtRiLast
import Derived.Test.YtfadpiipigkocaaMg18
import Derived.Test.YtfadpiipigkocaaMg07
namespace Go.Proofs.Ytfadpiipigkocaa
open Go.RowKit Go.Gz

abbrev AskT := Nat × Nat × Nat × Nat × List UInt8 × List UInt8 × List UInt8 × List UInt8
abbrev NtT := Nat × Nat × Nat × Nat × Nat × AskT × RepT × RecL × List RecL × List LaT × Nat × List ShT
/-- P16.2: a note's bytes: all its parts, one behind the other. -/
def noteC : Codec NtT := numC.pair (numC.pair (numC.pair (numC.pair (numC.pair ((askC.part 32768).pair ((replyC.part 32768).pair (recC.pair ((Codec.list recC).pair ((Codec.list laC).pair (numC.pair (Codec.list shC)))))))))))
def ntZ : NtT := (0, 0, 0, 0, 0, (0, 0, 0, 0, [], [], [], []), (0, 0, 0, false, [], [], [], false), ([], []), [], [], 0, [])
theorem nt_seq (st : St) : rdR noteC st = (rdR (Codec.list shC) (rdR numC (rdR (Codec.list laC) (rdR (Codec.list recC) (rdR recC (rdR (replyC.part 32768) (rdR (askC.part 32768) (rdR numC (rdR numC (rdR numC (rdR numC (rdR numC st)))))))))))) := by
  unfold noteC
  simp only [rdR_pair]
theorem rd_back {α : Type} {C : Codec α} {st : St} {r : List UInt8} (h : rdR C st = .ok r) : ∃ b, st = .ok b := by
  cases st with
  | ok b => exact ⟨b, rfl⟩
  | error e => cases h
theorem nt_vals (st : St) {r : List UInt8} (h : rdR noteC st = .ok r) : rdV noteC ntZ st = (rdV numC 0 st, rdV numC 0 (rdR numC st), rdV numC 0 (rdR numC (rdR numC st)), rdV numC 0 (rdR numC (rdR numC (rdR numC st))), rdV numC 0 (rdR numC (rdR numC (rdR numC (rdR numC st)))), rdV (askC.part 32768) (0, 0, 0, 0, [], [], [], []) (rdR numC (rdR numC (rdR numC (rdR numC (rdR numC st))))), rdV (replyC.part 32768) (0, 0, 0, false, [], [], [], false) (rdR (askC.part 32768) (rdR numC (rdR numC (rdR numC (rdR numC (rdR numC st)))))), rdV recC ([], []) (rdR (replyC.part 32768) (rdR (askC.part 32768) (rdR numC (rdR numC (rdR numC (rdR numC (rdR numC st))))))), rdV (Codec.list recC) [] (rdR recC (rdR (replyC.part 32768) (rdR (askC.part 32768) (rdR numC (rdR numC (rdR numC (rdR numC (rdR numC st)))))))), rdV (Codec.list laC) [] (rdR (Codec.list recC) (rdR recC (rdR (replyC.part 32768) (rdR (askC.part 32768) (rdR numC (rdR numC (rdR numC (rdR numC (rdR numC st))))))))), rdV numC 0 (rdR (Codec.list laC) (rdR (Codec.list recC) (rdR recC (rdR (replyC.part 32768) (rdR (askC.part 32768) (rdR numC (rdR numC (rdR numC (rdR numC (rdR numC st)))))))))), rdV (Codec.list shC) [] (rdR numC (rdR (Codec.list laC) (rdR (Codec.list recC) (rdR recC (rdR (replyC.part 32768) (rdR (askC.part 32768) (rdR numC (rdR numC (rdR numC (rdR numC (rdR numC st)))))))))))) := by
  unfold noteC at h ⊢
  rw [rdV_pair _ _ _ _ h]
  rw [rdR_pair] at h
  rw [rdV_pair _ _ _ _ h]
  rw [rdR_pair] at h
  rw [rdV_pair _ _ _ _ h]
  rw [rdR_pair] at h
  rw [rdV_pair _ _ _ _ h]
  rw [rdR_pair] at h
  rw [rdV_pair _ _ _ _ h]
  rw [rdR_pair] at h
  rw [rdV_pair _ _ _ _ h]
  rw [rdR_pair] at h
  rw [rdV_pair _ _ _ _ h]
  rw [rdR_pair] at h
  rw [rdV_pair _ _ _ _ h]
  rw [rdR_pair] at h
  rw [rdV_pair _ _ _ _ h]
  rw [rdR_pair] at h
  rw [rdV_pair _ _ _ _ h]
  rw [rdR_pair] at h
  rw [rdV_pair _ _ _ _ h]
  rw [rdR_pair] at h
  rfl
theorem rest_rec (st : St) : (restS (rdR recC st)).length ≤ (restS st).length := by
  have h : rdR recC st = rdR textC (rdR textC st) := rdR_pair textC textC st
  rw [h]; exact Nat.le_trans (rest_text _) (rest_text _)
theorem rest_iter {α : Type} (C : Codec α) (hC : ∀ st, (restS (rdR C st)).length ≤ (restS st).length) : ∀ (n : Nat) (st : St), (restS (iterR C n st)).length ≤ (restS st).length
  | 0, _ => Nat.le_refl _
  | n + 1, st => Nat.le_trans (rest_iter C hC n (rdR C st)) (hC st)
theorem rest_list {α : Type} (C : Codec α) (d : α) (hC : ∀ st, (restS (rdR C st)).length ≤ (restS st).length) (st : St) : (restS (rdR (Codec.list C) st)).length ≤ (restS st).length := by
  rw [(list_seq C d st).1]; exact Nat.le_trans (rest_iter C hC _ _) (rest_num st)
theorem rest_la (st : St) : (restS (rdR laC st)).length ≤ (restS st).length := by rw [la_seq]; exact Nat.le_trans (rest_part _ _ _) (rest_num st)
theorem rest_sh (st : St) : (restS (rdR shC st)).length ≤ (restS st).length := by rw [sh_seq]; exact Nat.le_trans (rest_num _) (Nat.le_trans (rest_num _) (rest_rec st))
theorem rest_listRec (st : St) : (restS (rdR (Codec.list recC) st)).length ≤ (restS st).length := rest_list recC ([], []) rest_rec st
theorem rest_listLast (st : St) : (restS (rdR (Codec.list laC) st)).length ≤ (restS st).length := rest_list laC laZ rest_la st
theorem rest_listShard (st : St) : (restS (rdR (Codec.list shC) st)).length ≤ (restS st).length := rest_list shC shZ rest_sh st
/-- a note as it is read. -/
structure NtOf (n : NtL) (x : NtT) : Prop where
  kd : n.kd = x.1
  fr : n.fr = x.2.1
  to_ : n.to_ = x.2.2.1
  ep : n.ep = x.2.2.2.1
  tk : n.tk = x.2.2.2.2.1
  ask : n.ask = askT x.2.2.2.2.2.1
  rep : n.rep = repT x.2.2.2.2.2.2.1
  sp : (n.sf, n.st) = x.2.2.2.2.2.2.2.1
  ls : n.ls = x.2.2.2.2.2.2.2.2.1
  la : n.la.map Ent.sem = x.2.2.2.2.2.2.2.2.2.1.map laOf
  ae : n.ae = x.2.2.2.2.2.2.2.2.2.2.1
  sh : n.sh = x.2.2.2.2.2.2.2.2.2.2.2.map sdOf
/-- a note's rows lie in blocks from B on. -/
structure NtNew (B : Nat) (n : NtL) (P : NtP) : Prop where
  rp : ∀ b off, P.rp = some ⟨b, off, none⟩ → B ≤ b
  lp : ∀ b off, P.lp = some ⟨b, off, none⟩ → B ≤ b
  ap : ∀ b off, P.ap = some ⟨b, off, none⟩ → B ≤ b
  es : ∀ e ∈ n.la, ∀ b off, e.p = some ⟨b, off, none⟩ → B ≤ b
  hp : ∀ b off, P.hp = some ⟨b, off, none⟩ → B ≤ b
/-- what take answers. -/
def RetTk (w : World) (l : List UInt8) (e : Ending) (w' : World) : Prop :=
  ∃ n P, e = .returned (.tuple #[ntV n P, .int .i64 (errX (readL noteC l))]) ∧ Below w.heap.size w w' ∧ (∀ x, readL noteC l = .ok x → NtOf n x ∧ NtIn w' n P ∧ NtNew w.heap.size n P)
theorem results_cell_slot {P : Program} {fn : Func} {q : Tmp} {p : Tmp} {ty : TypeId} (h : fn.results = #[.cell p ty, .tmp q]) (tmps : Array Value) (w : World) (g : Nat) (t : TypeId) (cs : Array Value) (fr : Nat × Nat) (d : TypeDesc) (v : Value)
    (hp : tmps.getD p undef = .pointer (some ⟨g, 0, none⟩)) (hq : tmps.getD q undef = v) (hg : w.heap[g]? = some (.cells cs t fr))
    (hu : P.underlying ty = some d) (hd : (match d with | .struct _ | .array _ _ => true | _ => false) = true) (hi : (P.info? ty).map (·.size) = some cs.size) :
    (results fn tmps).run P w = .ok (.tuple #[.agg cs, v]) w := by
  have hp' : tmps[p]?.getD undef = .pointer (some ⟨g, 0, none⟩) := by simpa using hp
  have hq' : tmps[q]?.getD undef = v := by simpa using hq
  simp [results, h, hp', hq', asAddr, run_loadVar_row w g t ty cs fr d hg hu hd hi]
theorem run_load_row {P : Program} {o : Oper} {a : Act} {w : World} (ty : TypeId) (x : Operand) (ho : o.op = .load ty x) (g : Nat) (hx : a.eval x = .pointer (some ⟨g, 0, none⟩)) (t : TypeId) (cs : Array Value) (fr : Nat × Nat) (d : TypeDesc) (hg : w.heap[g]? = some (.cells cs t fr))
    (hu : P.underlying ty = some d) (hd : (match d with | .struct _ | .array _ _ => true | _ => false) = true) (hi : (P.info? ty).map (·.size) = some cs.size) : (execOp a.eval o).run P w = .ok (.value (.agg cs)) w := by
  unfold execOp
  simp only [ho, hx, Instr.loadAt, Instr.sureAddr, Sem.run_bind, Sem.run_pure, Result.andThen_ok, run_loadVar_row w g t ty cs fr d hg hu hd hi]
theorem run_store_row {P : Program} {o : Oper} {a : Act} {w : World} (ty : TypeId) (x y : Operand) (ho : o.op = .store ty x y) (g : Nat) (cells : Array Value) (hx : a.eval x = .pointer (some ⟨g, 0, none⟩)) (hy : a.eval y = .agg cells)
    (t : TypeId) (old : Array Value) (hg : w.heap[g]? = some (.cells old t (0, 0))) (hi : (P.info? ty).map (·.size) = some cells.size) (hold : old.size = cells.size) (h1 : cells.all (·.oneCell') = true) : (execOp a.eval o).run P w = .ok .skip (w.setRow g cells) := by
  unfold execOp
  simp only [ho, hx, hy, Instr.storeAt, Instr.sureAddr, Sem.run_bind, Sem.run_pure, Result.andThen_ok, run_storeVar_row w g t ty old cells hg hi hold h1]
theorem mixedNt : Try.prog.follows .mixedOrders = true := by kernel_rfl
theorem OwnR.off {w w' : World} {B : Nat} {v : Value} {ls : List RecL} (h : OwnR w B v ls) (hk : ∀ b, B ≤ b → b < w.heap.size → w'.heap[b]? = w.heap[b]?) : OwnR w' B v ls := by
  obtain ⟨h1, h2⟩ := h
  refine ⟨h1, ?_⟩
  rcases h2 with h2 | ⟨b, cap, cur, e, hg, hh, r⟩
  · exact Or.inl h2
  · exact Or.inr ⟨b, cap, cur, e, hg, by rw [hk b hg (Array.getElem?_eq_some_iff.1 hh).1]; exact hh, r⟩
theorem OwnLa.off {w w' : World} {B : Nat} {v : Value} {ls : List Ent} (h : OwnLa w B v ls) (hk : ∀ b, B ≤ b → b < w.heap.size → w'.heap[b]? = w.heap[b]?) : OwnLa w' B v ls := by
  obtain ⟨h1, h2⟩ := h
  refine ⟨h1, ?_⟩
  rcases h2 with h2 | ⟨b, cap, cur, e, hg, hh, r⟩
  · exact Or.inl h2
  · exact Or.inr ⟨b, cap, cur, e, hg, by rw [hk b hg (Array.getElem?_eq_some_iff.1 hh).1]; exact hh, r⟩
theorem OwnSd.off {w w' : World} {B : Nat} {v : Value} {ls : List Sd} (h : OwnSd w B v ls) (hk : ∀ b, B ≤ b → b < w.heap.size → w'.heap[b]? = w.heap[b]?) : OwnSd w' B v ls := by
  obtain ⟨h1, h2⟩ := h
  refine ⟨h1, ?_⟩
  rcases h2 with h2 | ⟨b, cap, cur, e, hg, hh, r⟩
  · exact Or.inl h2
  · exact Or.inr ⟨b, cap, cur, e, hg, by rw [hk b hg (Array.getElem?_eq_some_iff.1 hh).1]; exact hh, r⟩

set_option maxHeartbeats 8000000 in
set_option maxRecDepth 100000 in
theorem take_n (l : List UInt8) (p : Option Addr) (cap : Nat) (w : World) (hp : Row w .u8 p (nums l)) (hl : l.length ≤ 99999999) :
    Calls Try.prog 25 #[.slice p l.length cap] w (RetTk w l) := by
  obtain ⟨W1, hW1⟩ : ∃ W1, w.alloc (.cells noteZ 43) = W1 := ⟨_, rfl⟩
  have hb1 : Below w.heap.size w W1 := hW1 ▸ (Below.refl _ _).alloc (Nat.le_refl _) _
  have hz1 : W1.heap.size = w.heap.size + 1 := by rw [← hW1]; simp
  have HA1 := Lib.hid (show W1.heap[w.heap.size]? = some (.cells noteZ 43 (0, 0)) from hW1 ▸ new_block _ _ _)
  have CR := Lib.hid (rnew_any W1 l p cap (hp.below hb1))
  rw [hz1] at CR
  have HB1 := Lib.hid hb1
  have HW1 := Lib.hid hW1
  have HZ1 := Lib.hid hz1
  have HLL := Lib.hid hl
  obtain ⟨ll, hll⟩ : ∃ n, l.length = n := ⟨_, rfl⟩
  rw [hll] at CR ⊢
  have HEND := Lib.hid (end_read noteC l)
  have HSQ := Lib.hid (nt_seq (.ok l))
  have HVL := Lib.hid (fun r (h : rdR noteC (.ok l) = .ok r) => nt_vals (.ok l) h)
  clear hp hb1 hz1 hW1 hl hll
  go_enter Try.func25, Try.ntmps25
  go_upto_region 1 with fail
  rw [HW1.out]
  go_wp2_with fail
  refine CR.out.mono ?_
  rintro e w0 ⟨rfl, hr0, hb0⟩
  have HB0 := Lib.hid hb0
  have HG := Lib.hid (show w.heap.size + 1 < w0.heap.size from hr0.lt)
  have HA0 := Lib.hid (show w0.heap[w.heap.size]? = some (.cells noteZ 43 (0, 0)) by rw [hb0.block _ (by omega)]; exact HA1.out)
  have HC0 := Lib.hid (Chg.refl (w.heap.size + 1) w0)
  have HR0 := Lib.hid hr0
  have HRL0 := Lib.hid (show (restS (.ok l)).length ≤ 99999999 from HLL.out)
  have HS0 := Lib.hid (rfl : (.ok l : St) = .ok l)
  clear hr0 hb0
  obtain ⟨S0, hS0⟩ : ∃ S : St, .ok l = S := ⟨_, rfl⟩
  rw [hS0] at HR0 HRL0 HSQ HEND
  have HSS0 := Lib.hid hS0
  clear hS0
  obtain ⟨n0, hn0⟩ : ∃ n, rdV numC 0 S0 = n := ⟨_, rfl⟩
  have C1 := Lib.hid (hn0 ▸ pcNumber_any w0 (w.heap.size + 1) S0 HR0.out)
  obtain ⟨S1, hS1⟩ : ∃ S, rdR numC S0 = S := ⟨_, rfl⟩
  have HRL1 := Lib.hid (show (restS S1).length ≤ 99999999 from hS1 ▸ Nat.le_trans (rest_num S0) HRL0.out)
  rw [hS1] at C1
  have HSS1 := Lib.hid hS1
  clear hS1
  go_wp2_with fail
  refine C1.out.mono ?_
  rintro e w1 ⟨rfl, hr1, hc1⟩
  have HR1 := Lib.hid hr1
  have HC1 := Lib.hid (HC0.out.trans hc1)
  have HD1 := Lib.hid hc1
  have HN0 := Lib.hid hn0
  clear hr1 hc1 hn0
  obtain ⟨n1, hn1⟩ : ∃ n, rdV numC 0 S1 = n := ⟨_, rfl⟩
  have C2 := Lib.hid (hn1 ▸ pcNumber_any w1 (w.heap.size + 1) S1 HR1.out)
  obtain ⟨S2, hS2⟩ : ∃ S, rdR numC S1 = S := ⟨_, rfl⟩
  have HRL2 := Lib.hid (show (restS S2).length ≤ 99999999 from hS2 ▸ Nat.le_trans (rest_num S1) HRL1.out)
  rw [hS2] at C2
  have HSS2 := Lib.hid hS2
  clear hS2
  go_wp2_with fail
  refine C2.out.mono ?_
  rintro e w2 ⟨rfl, hr2, hc2⟩
  have HR2 := Lib.hid hr2
  have HC2 := Lib.hid (HC1.out.trans hc2)
  have HD2 := Lib.hid hc2
  have HN1 := Lib.hid hn1
  clear hr2 hc2 hn1
  obtain ⟨n2, hn2⟩ : ∃ n, rdV numC 0 S2 = n := ⟨_, rfl⟩
  have C3 := Lib.hid (hn2 ▸ pcNumber_any w2 (w.heap.size + 1) S2 HR2.out)
  obtain ⟨S3, hS3⟩ : ∃ S, rdR numC S2 = S := ⟨_, rfl⟩
  have HRL3 := Lib.hid (show (restS S3).length ≤ 99999999 from hS3 ▸ Nat.le_trans (rest_num S2) HRL2.out)
  rw [hS3] at C3
  have HSS3 := Lib.hid hS3
  clear hS3
  go_wp2_with fail
  refine C3.out.mono ?_
  rintro e w3 ⟨rfl, hr3, hc3⟩
  have HR3 := Lib.hid hr3
  have HC3 := Lib.hid (HC2.out.trans hc3)
  have HD3 := Lib.hid hc3
  have HN2 := Lib.hid hn2
  clear hr3 hc3 hn2
  obtain ⟨n3, hn3⟩ : ∃ n, rdV numC 0 S3 = n := ⟨_, rfl⟩
  have C4 := Lib.hid (hn3 ▸ pcNumber_any w3 (w.heap.size + 1) S3 HR3.out)
  obtain ⟨S4, hS4⟩ : ∃ S, rdR numC S3 = S := ⟨_, rfl⟩
  have HRL4 := Lib.hid (show (restS S4).length ≤ 99999999 from hS4 ▸ Nat.le_trans (rest_num S3) HRL3.out)
  rw [hS4] at C4
  have HSS4 := Lib.hid hS4
  clear hS4
  go_wp2_with fail
  refine C4.out.mono ?_
  rintro e w4 ⟨rfl, hr4, hc4⟩
  have HR4 := Lib.hid hr4
  have HC4 := Lib.hid (HC3.out.trans hc4)
  have HD4 := Lib.hid hc4
  have HN3 := Lib.hid hn3
  clear hr4 hc4 hn3
  obtain ⟨n4, hn4⟩ : ∃ n, rdV numC 0 S4 = n := ⟨_, rfl⟩
  have C5 := Lib.hid (hn4 ▸ pcNumber_any w4 (w.heap.size + 1) S4 HR4.out)
  obtain ⟨S5, hS5⟩ : ∃ S, rdR numC S4 = S := ⟨_, rfl⟩
  have HRL5 := Lib.hid (show (restS S5).length ≤ 99999999 from hS5 ▸ Nat.le_trans (rest_num S4) HRL4.out)
  rw [hS5] at C5
  have HSS5 := Lib.hid hS5
  clear hS5
  go_wp2_with fail
  refine C5.out.mono ?_
  rintro e w5 ⟨rfl, hr5, hc5⟩
  have HR5 := Lib.hid hr5
  have HC5 := Lib.hid (HC4.out.trans hc5)
  have HD5 := Lib.hid hc5
  have HN4 := Lib.hid hn4
  clear hr5 hc5 hn4
  have C6 := Lib.hid (readPartAsk w5 (w.heap.size + 1) S5 HR5.out)
  obtain ⟨S6, hS6⟩ : ∃ S, rdR (askC.part 32768) S5 = S := ⟨_, rfl⟩
  have HRL6 := Lib.hid (show (restS S6).length ≤ 99999999 from hS6 ▸ Nat.le_trans (rest_part 32768 askC S5) HRL5.out)
  unfold RetPtAsk at C6
  rw [hS6] at C6
  have HSS6 := Lib.hid hS6
  clear hS6
  go_wp2_with fail
  refine C6.out.mono ?_
  rintro e w6 ⟨ak, rfl, hr6, hc6, hv5⟩
  have HR6 := Lib.hid hr6
  have HC6 := Lib.hid (HC5.out.trans hc6)
  have HD6 := Lib.hid hc6
  have HV5 := Lib.hid hv5
  clear hr6 hc6 hv5
  have C7 := Lib.hid (readPartReply w6 (w.heap.size + 1) S6 HR6.out)
  obtain ⟨S7, hS7⟩ : ∃ S, rdR (replyC.part 32768) S6 = S := ⟨_, rfl⟩
  have HRL7 := Lib.hid (show (restS S7).length ≤ 99999999 from hS7 ▸ Nat.le_trans (rest_part 32768 replyC S6) HRL6.out)
  unfold RetPtReply at C7
  rw [hS7] at C7
  have HSS7 := Lib.hid hS7
  clear hS7
  go_wp2_with fail
  refine C7.out.mono ?_
  rintro e w7 ⟨rp, q6, d6, rfl, hr7, hc7, hrc6, hrn6, hv6⟩
  have HR7 := Lib.hid hr7
  have HC7 := Lib.hid (HC6.out.trans hc7)
  have HD7 := Lib.hid hc7
  have HV6 := Lib.hid hv6
  have HRC6 := Lib.hid hrc6
  have HRN6 := Lib.hid hrn6
  clear hr7 hc7 hv6 hrc6 hrn6
  have C8 := Lib.hid (takeSpan_any w7 (w.heap.size + 1) S7 HR7.out)
  obtain ⟨S8, hS8⟩ : ∃ S, rdR recC S7 = S := ⟨_, rfl⟩
  have HRL8 := Lib.hid (show (restS S8).length ≤ 99999999 from hS8 ▸ Nat.le_trans (rest_rec S7) HRL7.out)
  unfold RetSp1 at C8
  rw [hS8] at C8
  have HSS8 := Lib.hid hS8
  clear hS8
  go_wp2_with fail
  refine C8.out.mono ?_
  rintro e w8 ⟨sp, rfl, hr8, hc8, hv7⟩
  have HR8 := Lib.hid hr8
  have HC8 := Lib.hid (HC7.out.trans hc8)
  have HD8 := Lib.hid hc8
  have HV7 := Lib.hid hv7
  clear hr8 hc8 hv7
  have C9 := Lib.hid (readItemsRec (g := 59) (lb := #[]) (fun _ _ => rfl) w8 (w.heap.size + 1) S8 HR8.out HRL8.out (fun _ _ hr => recs_short hr) (fun w1 b _ hr _ => rrecord_any w1 _ (.ok b) hr))
  obtain ⟨S9, hS9⟩ : ∃ S, rdR (Codec.list recC) S8 = S := ⟨_, rfl⟩
  have HRL9 := Lib.hid (show (restS S9).length ≤ 99999999 from hS9 ▸ Nat.le_trans (rest_listRec S8) HRL8.out)
  unfold RetItRec at C9
  rw [hS9] at C9
  have HSS9 := Lib.hid hS9
  clear hS9
  go_wp2_with fail
  refine C9.out.mono ?_
  rintro e w9 ⟨v8, y8, rfl, ho8, hr9, hc9, hv8, hin8⟩
  have HR9 := Lib.hid hr9
  have HC9 := Lib.hid (HC8.out.trans hc9)
  have HD9 := Lib.hid hc9
  have HV8 := Lib.hid hv8
  have HO8 := Lib.hid ho8
  have HI8 := Lib.hid hin8
  obtain ⟨q8, d8, rfl, -⟩ := ho8.row
  clear hr9 hc9 hv8 ho8 hin8
  have C10 := Lib.hid (readItemsLast (g := 61) (lb := #[]) (fun _ _ => rfl) w9 (w.heap.size + 1) S9 HR9.out HRL9.out (fun _ _ hr => la_short hr) (fun w1 b _ hr _ => takeLast_any w1 _ (.ok b) hr))
  obtain ⟨S10, hS10⟩ : ∃ S, rdR (Codec.list laC) S9 = S := ⟨_, rfl⟩
  have HRL10 := Lib.hid (show (restS S10).length ≤ 99999999 from hS10 ▸ Nat.le_trans (rest_listLast S9) HRL9.out)
  unfold RetItLast at C10
  rw [hS10] at C10
  have HSS10 := Lib.hid hS10
  clear hS10
  go_wp2_with fail
  refine C10.out.mono ?_
  rintro e w10 ⟨v9, y9, rfl, ho9, hr10, hc10, hv9, hin9⟩
  have HR10 := Lib.hid hr10
  have HC10 := Lib.hid (HC9.out.trans hc10)
  have HD10 := Lib.hid hc10
  have HV9 := Lib.hid hv9
  have HO9 := Lib.hid ho9
  have HI9 := Lib.hid hin9
  obtain ⟨q9, d9, rfl, -⟩ := ho9.row
  clear hr10 hc10 hv9 ho9 hin9
  obtain ⟨n10, hn10⟩ : ∃ n, rdV numC 0 S10 = n := ⟨_, rfl⟩
  have C11 := Lib.hid (hn10 ▸ pcNumber_any w10 (w.heap.size + 1) S10 HR10.out)
  obtain ⟨S11, hS11⟩ : ∃ S, rdR numC S10 = S := ⟨_, rfl⟩
  have HRL11 := Lib.hid (show (restS S11).length ≤ 99999999 from hS11 ▸ Nat.le_trans (rest_num S10) HRL10.out)
  rw [hS11] at C11
  have HSS11 := Lib.hid hS11
  clear hS11
  go_wp2_with fail
  refine C11.out.mono ?_
  rintro e w11 ⟨rfl, hr11, hc11⟩
  have HR11 := Lib.hid hr11
  have HC11 := Lib.hid (HC10.out.trans hc11)
  have HD11 := Lib.hid hc11
  have HN10 := Lib.hid hn10
  clear hr11 hc11 hn10
  have C12 := Lib.hid (readItemsShard (g := 63) (lb := #[]) (fun _ _ => rfl) w11 (w.heap.size + 1) S11 HR11.out HRL11.out (fun _ _ hr => sh_short hr) (fun w1 b _ hr _ => takeShard_any w1 _ (.ok b) hr))
  obtain ⟨S12, hS12⟩ : ∃ S, rdR (Codec.list shC) S11 = S := ⟨_, rfl⟩
  have HRL12 := Lib.hid (show (restS S12).length ≤ 99999999 from hS12 ▸ Nat.le_trans (rest_listShard S11) HRL11.out)
  unfold RetItShard at C12
  rw [hS12] at C12
  have HSS12 := Lib.hid hS12
  clear hS12
  go_wp2_with fail
  refine C12.out.mono ?_
  rintro e w12 ⟨v11, y11, rfl, ho11, hr12, hc12, hv11, hin11⟩
  have HR12 := Lib.hid hr12
  have HC12 := Lib.hid (HC11.out.trans hc12)
  have HD12 := Lib.hid hc12
  have HV11 := Lib.hid hv11
  have HO11 := Lib.hid ho11
  have HI11 := Lib.hid hin11
  obtain ⟨q11, d11, rfl, -⟩ := ho11.row
  clear hr12 hc12 hv11 ho11 hin11
  have HCH10 := Lib.hid (HD11.out.trans HD12.out)
  have HCH9 := Lib.hid (HD10.out.trans HCH10.out)
  have HCH7 := Lib.hid (HD8.out.trans (HD9.out.trans HCH9.out))
  obtain ⟨n, hn⟩ : ∃ n : NtL, n = ⟨n0, n1, n2, n3, n4, ak, rp, sp.1, sp.2, y8, y9, n10, y11⟩ := ⟨_, rfl⟩
  obtain ⟨P, hP⟩ : ∃ P : NtP, P = ⟨q6, d6, q8, d8, q9, d9, q11, d11⟩ := ⟨_, rfl⟩
  obtain ⟨c, hc⟩ : ∃ c : Array Value, #[.int .i64 (n0 : Nat), .int .i64 (n1 : Nat), .int .i64 (n2 : Nat), .int .i64 (n3 : Nat), .int .i64 (n4 : Nat), .int .i64 ak.d, .int .i64 ak.c, .int .i64 ak.s, .string (strB ak.t), .string (strB ak.v), .string (strB ak.f), .string (strB ak.u), .int .i64 ak.m, .int .i64 rp.c, .int .i64 rp.s, .int .i64 rp.e, .bool rp.fd, .string (strB rp.v), .slice q6 rp.ls.length d6, .string (strB rp.nx), .bool rp.mr, .string (strB sp.1), .string (strB sp.2), .slice q8 y8.length d8, .slice q9 y9.length d9, .int .i64 (n10 : Nat), .slice q11 y11.length d11] = c := ⟨_, rfl⟩
  have HCN := Lib.hid (show ntV n P = .agg c by rw [hn, hP, ← hc]; rfl)
  have hcs : c.size = 27 := by rw [← hc]; rfl
  have HSZ := Lib.hid (show (Try.prog.info? 43).map (·.size) = some c.size by rw [hcs]; exact info_note)
  have HONE := Lib.hid (show c.all (·.oneCell') = true by rw [← hc]; simp [Value.oneCell'])
  have HCS := Lib.hid (show noteZ.size = c.size by rw [hcs]; rfl)
  obtain ⟨W2, hW2⟩ : ∃ W2, w12.alloc (.cells c 43) = W2 := ⟨_, rfl⟩
  have HST := Lib.hid (note_store w12 c w12.heap.size rfl hcs)
  rw [hW2] at HST
  have hb12 : Below w12.heap.size w12 W2 := hW2 ▸ (Below.refl _ _).alloc (Nat.le_refl _) _
  have HS12 := Lib.hid (show w0.heap.size ≤ w12.heap.size from HC12.out.size)
  have HA2 := Lib.hid (show W2.heap[w.heap.size]? = some (.cells noteZ 43 (0, 0)) by rw [hb12.block _ (by have := HG.out; have := HS12.out; omega), HC12.out.block _ (by have := HG.out; omega) (by omega)]; exact HA0.out)
  have HT2 := Lib.hid (show W2.heap[w12.heap.size]? = some (.cells c 43 (0, 0)) from hW2 ▸ new_block _ _ _)
  have HR2 := Lib.hid (HR12.out.below hb12)
  have HB12 := Lib.hid hb12
  have HNP := Lib.hid (And.intro hn hP)
  have HCE := Lib.hid hc
  unfold askV repV
  clear hn hP hc hcs hW2 hb12
  generalize ak.d = a0 at HCE ⊢
  generalize ak.c = a1 at HCE ⊢
  generalize ak.s = a2 at HCE ⊢
  generalize strB ak.t = a3 at HCE ⊢
  generalize strB ak.v = a4 at HCE ⊢
  generalize strB ak.f = a5 at HCE ⊢
  generalize strB ak.u = a6 at HCE ⊢
  generalize ak.m = a7 at HCE ⊢
  generalize rp.c = r0 at HCE ⊢
  generalize rp.s = r1 at HCE ⊢
  generalize rp.e = r2 at HCE ⊢
  generalize rp.fd = r3 at HCE ⊢
  generalize strB rp.v = r4 at HCE ⊢
  generalize rp.ls.length = r5 at HCE ⊢
  generalize strB rp.nx = r6 at HCE ⊢
  generalize rp.mr = r7 at HCE ⊢
  generalize strB sp.1 = s0 at HCE ⊢
  generalize strB sp.2 = s1 at HCE ⊢
  generalize y8.length = l8 at HCE ⊢
  generalize y9.length = l9 at HCE ⊢
  generalize y11.length = l11 at HCE ⊢
  go_upto_region 3 with (refine wpList_store_row rfl 43 (.tmp 5) (.tmp 33) rfl w12.heap.size c rfl (congrArg Value.agg HCE.out) 43 noteZ HST.out.1 HSZ.out HST.out.2.1 HONE.out ?_)
  rw [HST.out.2.2]
  have CE := Lib.hid (fun x h => end_any x (w.heap.size + 1) S12 h)
  obtain ⟨E, hE⟩ : ∃ E, endE S12 = E := ⟨_, rfl⟩
  rw [hE] at CE
  have HEE := Lib.hid hE
  clear hE
  have hA2 := HA2.out
  have hT2 := HT2.out
  refine wp_region_state mixedNt (by kernel_rfl) [some (.agg c), some (.pointer (some ⟨w.heap.size + 1, 0, none⟩)), some (.int .i64 E), none, some (.int .i64 E)] (fun L x => Hid (x = bif L 3 then W2.drew.setRow w.heap.size c else W2.drew)) (Lib.hid rfl) ?_ ?_
  · intro i o L vals x hi hL hdep hC hJ hV
    have hlt : i < 5 := by have := (List.getElem?_eq_some_iff.1 hi).1; simpa using this
    generalize hA : frA _ _ L vals = a'
    have hT2' : a'.tmps.getD 2 undef = .pointer (some ⟨w.heap.size, 0, none⟩) := by rw [← hA, frA_base (by kernel_rfl)]; rfl
    have hT4' : a'.tmps.getD 4 undef = .pointer (some ⟨w.heap.size + 1, 0, none⟩) := by rw [← hA, frA_base (by kernel_rfl)]; rfl
    have hT5' : a'.tmps.getD 5 undef = .pointer (some ⟨w12.heap.size, 0, none⟩) := by rw [← hA, frA_base (by kernel_rfl)]; rfl
    have hD := Lib.hid (fun k t (hk : L k = true) (ht : dstOf _ k = some t) => hA ▸ frA_done (by kernel_rfl) (vals := vals) hk ht)
    clear hA
    have hXT : x.heap[w12.heap.size]? = some (.cells c 43 (0, 0)) := by
      rw [hJ.out]
      cases L 3 with
      | true => show (W2.drew.setRow _ _).heap[_]? = _; rw [setRow_other (by have := HG.out; have := HS12.out; omega)]; exact hT2
      | false => exact hT2
    have hXR : RdAt x (w.heap.size + 1) S12 := by
      rw [hJ.out]
      cases L 3 with
      | true => exact ⟨HR2.out.bd, by show (W2.drew.setRow _ _).heap[_]? = _; rw [setRow_other (by omega)]; exact HR2.out.at_⟩
      | false => exact ⟨HR2.out.bd, HR2.out.at_⟩
    obtain rfl | rfl | rfl | rfl | rfl : i = 0 ∨ i = 1 ∨ i = 2 ∨ i = 3 ∨ i = 4 := by omega
    all_goals
      injection hi with hi
      subst hi
      try simp [Region.binds] at hdep
    · exact step_run rfl (v := .agg c) (w' := x) (run_load_row 43 (.tmp 5) rfl w12.heap.size hT5' 43 c (0, 0) _ hXT Try.underlying43 rfl HSZ.out) ⟨EqV.self rfl, by simpa [updL] using hJ⟩
    · exact step_run rfl (v := .pointer (some ⟨w.heap.size + 1, 0, none⟩)) (w' := x) (by go_simp) ⟨EqV.self rfl, by simpa [updL] using hJ⟩
    · have d35 := hD.out 1 35 (by simp [hdep]) rfl
      rw [show vals 1 = .pointer (some ⟨w.heap.size + 1, 0, none⟩) from (hV 1 (by simp [hdep])).of rfl] at d35
      refine step_enter rfl (f := 64) (args := #[.pointer (some ⟨w.heap.size + 1, 0, none⟩)]) (w' := x) (by go_simp) ?_
      refine (CE.out x hXR).mono ?_
      rintro e x' ⟨rfl, rfl⟩
      exact ⟨_, rfl, EqV.self rfl, by simpa [updL] using hJ⟩
    · have d34 := hD.out 0 34 (by simp [hdep]) rfl
      rw [show vals 0 = .agg c from (hV 0 (by simp [hdep])).of rfl] at d34
      have hx : x = W2.drew := by have := hJ.out; rw [hL] at this; exact this
      subst hx
      exact stepI_skip rfl (run_store_row 43 (.tmp 2) (.tmp 34) rfl w.heap.size c hT2' d34 43 noteZ hA2 HSZ.out HCS.out HONE.out) ⟨EqV.no rfl, Lib.hid (by simp [updL])⟩
    · have d36 := hD.out 2 36 (by simp [hdep]) rfl
      rw [show vals 2 = .int .i64 E from (hV 2 (by simp [hdep])).of rfl] at d36
      exact step_run rfl (v := .int .i64 E) (w' := x) (by go_simp) ⟨EqV.self rfl, by simpa [updL] using hJ⟩
  · intro vals x hJ hV
    obtain rfl : x = W2.drew.setRow w.heap.size c := hJ.out
    have e0 : vals 0 = .agg c := (hV 0 (by decide)).of rfl
    have e1 : vals 1 = .pointer (some ⟨w.heap.size + 1, 0, none⟩) := (hV 1 (by decide)).of rfl
    have e2 : vals 2 = .int .i64 E := (hV 2 (by decide)).of rfl
    have e4 : vals 4 = .int .i64 E := (hV 4 (by decide)).of rfl
    have HFA := Lib.hid (show (W2.drew.setRow w.heap.size c).heap[w.heap.size]? = some (.cells c 43 (0, 0)) from setRow_heap _ _ _ _ _ _ hA2)
    have HB2 := Lib.hid (show Below w.heap.size w (W2.drew.setRow w.heap.size c) from below_setRow ((HB1.out.trans ((HB0.out.mono (by have := HZ1.out; omega)).trans ((HC12.out.below (by omega) (by have := HG.out; omega)).trans (HB12.out.mono (by have := HG.out; have := HS12.out; omega))))).drew) (Nat.le_refl _))
    have HQ := Lib.hid (show RetTk w l (.returned (.tuple #[.agg c, .int .i64 E])) (W2.drew.setRow w.heap.size c) from by
      have hE : E = errX (readL noteC l) := by
        rw [← HEND.out, ← HEE.out]
        congr 1
        rw [HSQ.out]
        rw [HSS1.out, HSS2.out, HSS3.out, HSS4.out, HSS5.out, HSS6.out, HSS7.out, HSS8.out, HSS9.out, HSS10.out, HSS11.out, HSS12.out]
      refine ⟨n, P, by rw [HCN.out, hE], HB2.out, fun x hx => ?_⟩
      obtain ⟨hk1, hk2⟩ := val_read noteC ntZ x l hx
      have hk3 := HVL.out _ hk1
      rw [hk2, HSS0.out] at hk3
      rw [HSS0.out, HSQ.out] at hk1
      rw [HSS1.out, HSS2.out, HSS3.out, HSS4.out, HSS5.out, HSS6.out, HSS7.out, HSS8.out, HSS9.out, HSS10.out, HSS11.out] at hk1 hk3
      rw [HN0.out, HN1.out, HN2.out, HN3.out, HN4.out, HN10.out] at hk3
      obtain ⟨b11, hb11⟩ := rd_back hk1
      obtain ⟨b10, hb10⟩ := rd_back (HSS11.out.trans hb11)
      obtain ⟨b9, hb9⟩ := rd_back (HSS10.out.trans hb10)
      obtain ⟨b8, hb8⟩ := rd_back (HSS9.out.trans hb9)
      obtain ⟨b7, hb7⟩ := rd_back (HSS8.out.trans hb8)
      obtain ⟨b6, hb6⟩ := rd_back (HSS7.out.trans hb7)
      have g12 := HSS12.out.symm.trans hk1
      have v5 := HV5.out _ hb6
      have v6 := HV6.out _ hb7
      have v7 := HV7.out _ hb8
      have v8 := HV8.out _ hb9
      have v9 := HV9.out _ hb10
      have v11 := HV11.out _ g12
      rw [List.map_id', List.map_id'] at v8
      rw [List.map_id'] at v11
      refine ⟨?_, ?_, ?_⟩
      · rw [HNP.out.1, hk3]
        exact ⟨rfl, rfl, rfl, rfl, rfl, v5, v6, v7, v8, v9, rfl, v11⟩
      rotate_left
      · have hz7 : w0.heap.size ≤ w7.heap.size := HC7.out.size
        have hz6 : w0.heap.size ≤ w6.heap.size := HC6.out.size
        have hz8 : w0.heap.size ≤ w8.heap.size := HC8.out.size
        have hz9 : w0.heap.size ≤ w9.heap.size := HC9.out.size
        have hz11 : w0.heap.size ≤ w11.heap.size := HC11.out.size
        have hz10 : w0.heap.size ≤ w10.heap.size := HC10.out.size
        have hg := HG.out
        rw [HNP.out.1, HNP.out.2]
        refine ⟨?_, ?_, ?_, ?_, ?_⟩
        · exact fun b off hb => by have := (HRN6.out b off hb).1; omega
        · intro b off hb
          simp only at hb
          have h := HO8.out
          rw [hb] at h
          have := h.lt b rfl
          omega
        · intro b off hb
          simp only at hb
          obtain ⟨_, _, he, _, _, _, hn⟩ := OwnE.row HO9.out
          injection he with he _ _
          obtain ⟨g, hg1, hg2, _⟩ := hn _ (he ▸ hb)
          injection hg1 with hg1 _ _
          omega
        · intro e he b off hb
          have := ((HI9.out e he).2 b off hb).1
          omega
        · intro b off hb
          simp only at hb
          obtain ⟨_, _, he, _, _, _, hn⟩ := OwnK.row HO11.out
          injection he with he _ _
          obtain ⟨g, hg1, hg2, _⟩ := hn _ (he ▸ hb)
          injection hg1 with hg1 _ _
          omega
      · have hoff : ∀ {wk : World}, Chg (w.heap.size + 1) wk w12 → w0.heap.size ≤ wk.heap.size → ∀ b, w.heap.size + 1 < b → b < wk.heap.size → (W2.drew.setRow w.heap.size c).heap[b]? = wk.heap[b]? := fun {wk} hc hs b hb hbl => by
          rw [setRow_other (by omega)]
          show W2.heap[b]? = _
          rw [HB12.out.block b (by have := hc.size; omega), hc.block b hbl (by omega)]
        have hsz : ∀ {wk : World}, Chg (w.heap.size + 1) wk w12 → wk.heap.size ≤ (W2.drew.setRow w.heap.size c).heap.size := fun {wk} hc => by
          rw [size_setRow]
          show _ ≤ W2.heap.size
          have := hc.size; have := HB12.out.size; omega
        have hz7 : w0.heap.size ≤ w7.heap.size := HC7.out.size
        have hz6 : w0.heap.size ≤ w6.heap.size := HC6.out.size
        have hz8 : w0.heap.size ≤ w8.heap.size := HC8.out.size
        have hz9 : w0.heap.size ≤ w9.heap.size := HC9.out.size
        have hz11 : w0.heap.size ≤ w11.heap.size := HC11.out.size
        have hz10 : w0.heap.size ≤ w10.heap.size := HC10.out.size
        have hz12 : w0.heap.size ≤ w12.heap.size := HC12.out.size
        have hg := HG.out
        have hq7 := HCH7.out
        have hq9 := HCH9.out
        have hq10 := HCH10.out
        rw [HNP.out.1, HNP.out.2]
        refine ⟨?_, ?_, ?_, ?_, ?_⟩
        · exact HRC6.out.move (hsz hq7) fun b off hb hlt => hoff hq7 hz7 b (by have := (HRN6.out b off hb).1; omega) hlt
        · have h := OwnR.off HO8.out (w' := W2.drew.setRow w.heap.size c) fun b hb hlt => hoff hq9 hz9 b (by omega) hlt
          exact own_recs h
        · have h := OwnLa.off HO9.out (w' := W2.drew.setRow w.heap.size c) fun b hb hlt => hoff hq10 hz10 b (by omega) hlt
          obtain ⟨_, _, he, _, _, hr, _⟩ := OwnE.row h
          injection he with he _ _
          rw [he]; exact hr
        · intro e he
          have h := EntsN.move HI9.out (hsz hq10) fun b cs fz hb hh => hoff hq10 hz10 b (by omega) (Array.getElem?_eq_some_iff.1 hh).1
          exact (h e he).1
        · have h := OwnSd.off HO11.out (w' := W2.drew.setRow w.heap.size c) fun b hb hlt => hoff (Chg.refl _ _) hz12 b (by omega) hlt
          obtain ⟨_, _, he, _, _, hr, _⟩ := OwnK.row h
          injection he with he _ _
          rw [he]; exact hr)
    simp only [putsL, Act.put, List.setIfInBounds_toArray, List.set_cons_zero, List.set_cons_succ, e0, e1, e2, e4]
    clear hJ hV e0 e1 e2 e4 hA2 hT2
    generalize W2.drew.setRow w.heap.size c = WF at HFA HQ ⊢
    go_wp2_with fail
    refine bodyPost_ret (v := .tuple #[.agg c, .int .i64 E]) ?_ rfl HQ.out
    exact results_cell_slot rfl _ _ w.heap.size 43 c (0, 0) _ (.int .i64 E) rfl rfl HFA.out Try.underlying43 rfl HSZ.out
end Go.Proofs.Ytfadpiipigkocaa
