/-
  Several texts in one: AtRows, AtArgR, PcPart, NtIt.
-/
import Derived.Test.YtfadpiipigkocaaMg09
import Derived.Test.YtfadpiipigkocaaMg12
import Derived.Test.YtfadpiipigkocaaMg10
import Derived.BigQuiet
import Derived.Laws.EntriesVeiled
import Derived.WalkSpells
import Derived.LoopTactic
import Derived.Deep.LoopGhost
import Derived.Test.YtfadpiipigkocaaMg04
import Derived.Test.YtfadpiipigkocaaMg08
namespace Go.Proofs.Ytfadpiipigkocaa
open Go.RowKit Go.Gz

theorem mixedAt : Try.prog.follows .mixedOrders = true := by kernel_rfl
/-- a shard's cells. -/
def KS : SK Sd where
  cf x := [.string x.sp.f, .string x.sp.t, .int .i64 x.n, .int .i64 x.e]
  n := 4
  len _ := rfl
  one x u hu := by
    simp only [List.mem_cons, List.not_mem_nil, or_false] at hu
    rcases hu with rfl | rfl | rfl | rfl <;> rfl
  pos := by decide
def valSd (x : Sd) : Value := .agg #[.string x.sp.f, .string x.sp.t, .int .i64 x.n, .int .i64 x.e]
def zeroSd : Value := .agg #[.string ⟨#[]⟩, .string ⟨#[]⟩, .int .i64 0, .int .i64 0]
theorem skt_atlas : SKT Try.prog KS 70 39 zeroSd 48 := ⟨Try.underlying39, by kernel_rfl, by kernel_rfl, by decide⟩
theorem skt_ref : SKT Try.prog KS 76 31 zeroSd 48 := ⟨Try.underlying31, by kernel_rfl, by kernel_rfl, by decide⟩

/-- a span's cells. -/
def KP : SK SP where
  cf s := [.string s.f, .string s.t]
  n := 2
  len _ := rfl
  one s u hu := by
    simp only [List.mem_cons, List.not_mem_nil, or_false] at hu
    rcases hu with rfl | rfl <;> rfl
  pos := by decide
theorem skt_span : SKT Try.prog KP 29 75 (.agg #[.string ⟨#[]⟩, .string ⟨#[]⟩]) 32 := ⟨Try.underlying75, by kernel_rfl, by kernel_rfl, by decide⟩
theorem spans_of {w : World} {p : Option Addr} {ls : List SP} (h : RowK KP w p ls) : Spans w p ls := by
  rcases h with h | ⟨b, off, hp, hlt, hc⟩
  · exact Or.inl h
  · refine Or.inr ⟨b, off, hp, hlt, fun j hj => ?_⟩
    have e : ls[j]! = ls.getD j default := by rw [getElem!_pos ls j hj, List.getD, List.getElem?_eq_getElem hj]; rfl
    rw [e]
    exact ⟨hc j hj 0 (by decide), hc j hj 1 (by decide)⟩
theorem below_dn (w : World) (n : Nat) : Below w.heap.size w (w.drewN n) := ⟨rfl, rfl, rfl, Nat.le_refl _, fun _ _ => rfl⟩
/-- the cells of a boxed atlas. -/
def BoxA (W : World) (b : Nat) (ep : Int) (v : Value) : Prop := b < W.heap.size ∧ W.cell? ⟨b, 0, none⟩ = some (.int .i64 ep) ∧ W.cell? ⟨b, 1, none⟩ = some v
theorem BoxA.below {W w : World} {b : Nat} {ep : Int} {v : Value} (h : BoxA W b ep v) (hb : Below W.heap.size W w) : BoxA w b ep v :=
  ⟨Nat.lt_of_lt_of_le h.1 hb.size, by rw [hb.cell (p := ⟨b, 0, none⟩) h.1]; exact h.2.1, by rw [hb.cell (p := ⟨b, 1, none⟩) h.1]; exact h.2.2⟩
theorem BoxA.new (w : World) (ep : Int) (v : Value) (t : TypeId) : BoxA (w.alloc (.cells #[.int .i64 ep, v] t)) w.heap.size ep v := ⟨by simp, by simp, by simp⟩
theorem below_alloc (w : World) (x : Obj) : Below w.heap.size w (w.alloc x) := (Below.refl _ _).alloc (Nat.le_refl _) _

/-- what a call that answers an atlas of the same shards gives. -/
def RetA (w : World) (t : TypeId) (ep : Int) (L : List Sd) (e : Ending) (w' : World) : Prop := ∃ v, e = .returned (.agg #[.int .i64 ep, v]) ∧ OwnK KS w' w.heap.size t v L ∧ Below w.heap.size w w'
/-- .. as far as it has come. -/
structure MdI (w0 : World) (t : TypeId) (ep : Int) (o : Nat) (L : List Sd) (k : Nat) (wr : World) : Prop where
  kept : KeptF (fun j => j = o) w0 wr
  row : ∃ v, wr.heap[o]? = some (.cells #[.int .i64 ep, v] 41 (0, 0)) ∧ OwnK KS wr w0.heap.size t v (L.take k)
end Go.Proofs.Ytfadpiipigkocaa
namespace Go.Proofs.Ytfadpiipigkocaa
open Go.RowKit Go.ChangeShapes Go.WideShapes Go.Gz Go.Deep

theorem one_str {H : Type} {enc : TypeId × Value → H} {P : Program} {W : World} {t : TypeId} {fuel : Nat} {v : Value} {x : DataW H × List MemPlace} (ht : P.underlying t = some .string) (h : DataW.trod enc P W 0 (fun _ => true) true fuel t [v] = some x) : ∃ s : ByteArray, v = .string s ∧ s.size ≤ 9223372036854775807 := by
  cases fuel with
  | zero => simp [DataW.trod] at h
  | succ n =>
    unfold DataW.trod at h
    rw [ht] at h
    split at h <;> simp_all
    unfold maxLen at h
    exact h.1
set_option maxRecDepth 100000 in
theorem sd_of {H : Type} {enc : TypeId × Value → H} {W : World} {fuel : Nat} {cs : List Value} {x : DataW H × List MemPlace} (h : DataW.trod enc Try.prog W 0 (fun _ => true) true fuel 76 cs = some x) : ∃ s : Sd, cs = KS.cf s := by
  obtain ⟨ys, n, _, _, hlen, hyl, hf⟩ := DataW.trod_struct Try.underlying76 h
  have hC : Try.prog.cellsOf 76 = 4 := by kernel_rfl
  have hC2 : Try.prog.cellsOf 29 = 2 := by kernel_rfl
  have c1 : Try.prog.cellsOf 3 = 1 := by kernel_rfl
  have c2 : Try.prog.cellsOf 9 = 1 := by kernel_rfl
  rw [hC] at hlen
  match cs, hlen with
  | [v0, v1, v2, v3], _ =>
    match ys, hyl with
    | [y0, y1, y2], _ =>
      have h0 : DataW.trod enc Try.prog W 0 (fun _ => true) true n 29 [v0, v1] = some y0 := by simpa [c1, c2, hC2] using hf 0 _ rfl
      have h1 : DataW.trod enc Try.prog W 0 (fun _ => true) true n 3 [v2] = some y1 := by simpa [c1, c2, hC2] using hf 1 _ rfl
      have h2 : DataW.trod enc Try.prog W 0 (fun _ => true) true n 3 [v3] = some y2 := by simpa [c1, c2, hC2] using hf 2 _ rfl
      obtain ⟨a, ea, _, _⟩ := DataW.trod_int Try.underlying3 h1
      obtain ⟨b, eb, _, _⟩ := DataW.trod_int Try.underlying3 h2
      simp at ea eb
      subst ea eb
      obtain ⟨zs, n2, _, _, _, hzl, hg⟩ := DataW.trod_struct Try.underlying29 h0
      match zs, hzl with
      | [z0, z1], _ =>
        have g0 : DataW.trod enc Try.prog W 0 (fun _ => true) true n2 9 [v0] = some z0 := by simpa [c2] using hg 0 _ rfl
        have g1 : DataW.trod enc Try.prog W 0 (fun _ => true) true n2 9 [v1] = some z1 := by simpa [c2] using hg 1 _ rfl
        obtain ⟨s, rfl, _⟩ := one_str Try.underlying9 g0
        obtain ⟨t, rfl, _⟩ := one_str Try.underlying9 g1
        exact ⟨⟨⟨s, t⟩, a, b⟩, rfl⟩
set_option maxRecDepth 100000 in
/-- an atlas as it is read. -/
theorem at_of {H : Type} {enc : TypeId × Value → H} {W : World} {fuel : Nat} {cl : List Value} {x : DataW H × List MemPlace} (h : DataW.trod enc Try.prog W 0 (fun _ => true) true fuel 33 cl = some x) :
    ∃ ep p L c, cl = [.int .i64 ep, .slice p L.length c] ∧ RowK KS W p L ∧ L.length ≤ 9223372036854775807 ∧ (p = none → c = 0) ∧ (Lit.int .i64 ep).wf = true := by
  obtain ⟨ys, n, _, _, hlen, hyl, hf⟩ := DataW.trod_struct Try.underlying33 h
  have hC : Try.prog.cellsOf 33 = 2 := by kernel_rfl
  have c1 : Try.prog.cellsOf 3 = 1 := by kernel_rfl
  have c2 : Try.prog.cellsOf 31 = 1 := by kernel_rfl
  rw [hC] at hlen
  match cl, hlen with
  | [v0, v1], _ =>
    match ys, hyl with
    | [y0, y1], _ =>
      have h0 : DataW.trod enc Try.prog W 0 (fun _ => true) true n 3 [v0] = some y0 := by simpa [c1] using hf 0 _ rfl
      have h1 : DataW.trod enc Try.prog W 0 (fun _ => true) true n 31 [v1] = some y1 := by simpa [c1, c2] using hf 1 _ rfl
      obtain ⟨a, ea, _, wa⟩ := DataW.trod_int Try.underlying3 h0
      simp at ea
      subst ea
      obtain ⟨p, L, c, hv, hr, hl, hp⟩ := rowk_of KS Try.underlying31 (by kernel_rfl) (fun _ _ _ h => sd_of h) h1
      injection hv with hv _
      subst hv
      exact ⟨a, p, L, c, rfl, hr, hl, hp, wa⟩
end Go.Proofs.Ytfadpiipigkocaa
namespace Go.Proofs.Ytfadpiipigkocaa
open Go.RowKit

/-- a part that was packed, or was refused. -/
def partS (M : Nat) (st S : Option (List UInt8)) : Option (List UInt8) :=
  match S with
  | some b => textsS M st [b]
  | none => none
theorem textsS_none (M : Nat) : ∀ xs, textsS M none xs = none
  | [] => rfl
  | x :: xs => by
    show textsS M (textS M none x) xs = none
    have : textS M none x = none := by unfold textS; rw [numS_none]; rfl
    rw [this]; exact textsS_none M xs
theorem partS_len (M : Nat) (st S : Option (List UInt8)) : ((partS M st S).getD []).length ≤ (st.getD []).length + 4 + (S.getD []).length := by
  cases S with
  | none => show 0 ≤ _; omega
  | some b => exact textS_len M st b
/-- what is packed has 32,768 bytes at most. -/
theorem repS_len (r : RepL) : ((repS r).getD []).length ≤ 32768 := by
  have h : ∀ b, repS r = some b → b.length ≤ 32768 := fun b hb => layS_bd hb
  cases hr : repS r with
  | none => simp
  | some b => exact h b hr
theorem askS_len' (a : AskL) : ((askS a).getD []).length ≤ 32768 := by
  have h : ∀ b, askS a = some b → b.length ≤ 32768 := fun b hb => layS_bd (show layS 32768 _ _ = some b from hb)
  cases hr : askS a with
  | none => simp
  | some b => exact h b hr

theorem run_strB (w : World) (l : List UInt8) (p : Option Addr) (c : Nat) (hp : Row w .u8 p (nums l)) : (convert 50 9 (.slice p l.length c)).run Try.prog w = .ok (.string (strB l)) w := run_string w l p c hp
set_option maxHeartbeats 1000000 in
theorem part_any (w : World) (B g M : Nat) (st S : Option (List UInt8)) (p : Option Addr) (c : Nat) (hrow : Row w .u8 p (nums (S.getD []))) (hB : B ≤ w.heap.size) (h : PkAt w B g M st) (hM : M ≤ 9223372036854775807) (hr : M ≤ 1000000000000 ∨ (st.getD []).length + 4 + (S.getD []).length ≤ 1000000000000) :
    Calls Try.prog 40 #[.pointer (some ⟨g, 0, none⟩), .slice p (S.getD []).length c, .int .i64 (errP S)] w fun e w' => e = .returned (.tuple #[]) ∧ Laid w B g M (partS M st S) w' := by
  cases S with
  | some b =>
    simp only [Option.getD_some] at hrow hr ⊢
    have hcv := run_strB w b p c hrow
    have HL1 := Lib.hid ((Laid.refl h).alloc hB (.cells #[.string (strB b)] 9))
    have HC := Lib.hid (texts_any _ B g M w.heap.size st [b] (by have := HL1.out.bl.size; omega) HL1.out.pk hM (by have : sizeT [b] = 4 + b.length + 0 := rfl; omega) (new_block w _ _) (by simp))
    have HF := Lib.hid (show ∀ w', Laid w B g M (textsS M st [b]) w' → Laid w B g M (partS M st (some b)) w' from fun _ h => h)
    generalize partS M st (some b) = R at HF ⊢
    have he : errP (some b) = 0 := rfl
    rw [he]
    obtain ⟨n, hn⟩ : ∃ n, b.length = n := ⟨_, rfl⟩
    rw [hn] at hcv ⊢
    generalize hs : strB b = s at hcv HL1 HC
    clear h hr hM hB hrow he hn hs
    go_enter Try.func40, Try.ntmps40
    go_wp2_with fail
    refine HC.out.mono ?_
    rintro e w2 ⟨rfl, hl⟩
    have HL2 := Lib.hid (HF.out _ (HL1.out.trans hl))
    clear hl
    go_wp2_with fail
    exact bodyPost_end (v := .tuple #[]) (by simp [results, Try.results40]) rfl ⟨rfl, HL2.out⟩
  | none =>
    simp only [Option.getD_none] at hrow hr ⊢
    have CR := Lib.hid (refuse_any w B g M st h)
    have HM := Lib.hid hM
    have HB := Lib.hid hB
    have he : errP none = 1 := rfl
    rw [he, show ([] : List UInt8).length = 0 from rfl]
    clear h hr hM hB hrow he
    go_enter Try.func40, Try.ntmps40
    go_wp2_with fail
    refine CR.out.mono ?_
    rintro e w1 ⟨rfl, hl1⟩
    have hcv := run_strB w1 [] p c (Or.inl rfl)
    have hs1 : B ≤ w1.heap.size := Nat.le_trans HB.out hl1.bl.size
    have HL1 := Lib.hid (hl1.alloc HB.out (.cells #[.string (strB [])] 9))
    have HC := Lib.hid (texts_any _ B g M w1.heap.size none [[]] (by simp; omega) HL1.out.pk HM.out (Or.inr (by decide)) (new_block w1 _ _) (by simp))
    rw [textsS_none] at HC
    generalize hs : strB [] = s at hcv HL1 HC
    clear hl1 hs hs1
    rw [show ([] : List UInt8).length = 0 from rfl] at hcv
    go_wp2_with fail
    refine HC.out.mono ?_
    rintro e w2 ⟨rfl, hl⟩
    have HL2 := Lib.hid (show Laid w B g M (partS M st none) w2 from HL1.out.trans hl)
    clear hl
    go_wp2_with fail
    exact bodyPost_end (v := .tuple #[]) (by simp [results, Try.results40]) rfl ⟨rfl, HL2.out⟩
end Go.Proofs.Ytfadpiipigkocaa
namespace Go.Proofs.Ytfadpiipigkocaa
open Go.RowKit Go.Gz

set_option maxHeartbeats 4000000 in
theorem itemsLast_any {g : FuncId} {lb : Array Value} (eg : ∀ args w, (callFunc g args).run Try.prog w = .ok (.enter g args) w) (f : Option (List UInt8) → Ent → Option (List UInt8))
    (w0 w : World) (B gp M : Nat) (st : Option (List UInt8)) (ls : List Ent) (p : Option Addr) (cap : Nat) (hp : RowE w0 p ls) (hb0 : Below w0.heap.size w0 w) (hB0 : w0.heap.size ≤ B) (hB : B ≤ w.heap.size) (hpk : PkAt w B gp M st) (hM : M ≤ 9223372036854775807)
    (hr : M ≤ 1000000000000 ∨ (st.getD []).length + 4 ≤ 1000000000000) (hn : ls.length ≤ 1048576)
    (hone : ∀ k, k < ls.length → ∀ w1, B ≤ w1.heap.size → Below B w w1 → PkAt w1 B gp M ((ls.take k).foldl f (numsS M st [(ls.length : Int)])) →
      Calls Try.prog g (#[.pointer (some ⟨gp, 0, none⟩), Ent.val (ls.getD k default)] ++ lb) w1 fun e w' => e = .returned (.tuple #[]) ∧ Laid w1 B gp M (f ((ls.take k).foldl f (numsS M st [(ls.length : Int)])) (ls.getD k default)) w') :
    Calls Try.prog 46 #[.pointer (some ⟨gp, 0, none⟩), .slice p ls.length cap, .func (.func g) #[] lb] w fun e w' => e = .returned (.tuple #[]) ∧ Laid w B gp M (itemsS M f st ls) w' := by
  have hfn : ∀ w : World, (binOp .eql 98 (.func (.func g) #[] lb) .nilFunc).run Try.prog w = .ok (.bool false) w := fun _ => by kernel_rfl
  have HF := Lib.hid (show ∀ w', Laid w B gp M (ls.foldl f (numsS M st [(ls.length : Int)])) w' → Laid w B gp M (itemsS M f st ls) w' from fun _ h => h)
  generalize itemsS M f st ls = R at HF ⊢
  have hgt : decide ((1048576 : Int) < (ls.length : Int)) = false := by simp; omega
  have hnn : ls.length ≤ 1048576 := hn
  have HL1 := Lib.hid ((Laid.refl hpk).alloc hB (.cells #[.int .i64 (ls.length : Int)] 3))
  have CN := Lib.hid (numbers_any _ B gp M w.heap.size st [(ls.length : Int)] (by have := HL1.out.bl.size; omega) HL1.out.pk hM (by simpa using hr) (new_block w _ _) (by simp))
  obtain ⟨S0, hS0⟩ : ∃ S0, numsS M st [(ls.length : Int)] = S0 := ⟨_, rfl⟩
  rw [hS0] at HF CN hone
  have HP := Lib.hid hp
  have HB0 := Lib.hid hb0
  have HO := Lib.hid hone
  obtain ⟨n, hN⟩ : ∃ n, ls.length = n := ⟨_, rfl⟩
  rw [hN] at hgt hnn HL1 CN ⊢
  have HN := Lib.hid hN
  clear hp hb0 hone hN hS0 hpk hr hn
  go_enter Try.func46, Try.ntmps46
  go_wp2_with fail
  refine CN.out.mono ?_
  rintro e w1 ⟨rfl, hl1⟩
  have HL2 := Lib.hid (HL1.out.trans hl1)
  clear hl1
  go_wp2_with fail
  go_loopw [24] (fun i wr => ∃ k : Nat, k ≤ n ∧ i = .int .i64 k ∧ Hid (Laid w B gp M ((ls.take k).foldl f S0) wr)) (fun i _ => n - (RowKit.intOf i).toNat)
  case atStart => exact ⟨0, Nat.zero_le _, rfl, HL2⟩
  case round =>
    obtain ⟨k, hk, rfl, HLk⟩ := hrel
    by_cases hlt : k < n
    · have hltz : (k : Int) < (n : Int) := by omega
      obtain ⟨b, o, hpe, hbl, hcell⟩ := ent_cells HP.out (HB0.out.trans (HLk.out.bl.mono hB0)) (show k < ls.length by rw [HN.out]; exact hlt)
      subst hpe
      have HC := Lib.hid (HO.out k (by rw [HN.out]; exact hlt))
      have HS := Lib.hid (foldl_snoc f S0 ls k default (by rw [HN.out]; exact hlt))
      obtain ⟨x, hx⟩ : ∃ x, ls.getD k default = x := ⟨_, rfl⟩
      rw [hx] at hcell HC HS
      have z0 := hcell 0 (by decide)
      have z1 := hcell 1 (by decide)
      have z2 := hcell 2 (by decide)
      have z3 := hcell 3 (by decide)
      have z4 := hcell 4 (by decide)
      have z5 := hcell 5 (by decide)
      have z6 := hcell 6 (by decide)
      have z7 := hcell 7 (by decide)
      have z8 := hcell 8 (by decide)
      obtain ⟨X, hX⟩ : ∃ X, x = X := ⟨_, rfl⟩
      rw [hX] at HS
      simp only [Ent.list, Nat.add_zero] at z0 z1 z2 z3 z4 z5 z6 z7 z8
      have HC := Lib.hid (show ∀ w1, B ≤ w1.heap.size → Below B w w1 → PkAt w1 B gp M ((ls.take k).foldl f S0) → Calls Try.prog g (#[.pointer (some ⟨gp, 0, none⟩), .agg #[.int .i64 x.s, .int .i64 x.r.c, .int .i64 x.r.s, .int .i64 x.r.e, .bool x.r.fd, .string (strB x.r.v), .slice x.p x.r.ls.length x.k, .string (strB x.r.nx), .bool x.r.mr]] ++ lb) w1 fun e w' => e = .returned (.tuple #[]) ∧ Laid w1 B gp M (f ((ls.take k).foldl f S0) X) w' by rw [← hX]; exact HC.out)
      clear hX
      generalize x.s = a0 at z0 HC
      generalize x.r.c = a1 at z1 HC
      generalize x.r.s = a2 at z2 HC
      generalize x.r.e = a3 at z3 HC
      generalize x.r.fd = a4 at z4 HC
      generalize strB x.r.v = a5 at z5 HC
      generalize x.r.ls.length = a6 at z6 HC
      generalize x.p = a7 at z6 HC
      generalize x.k = a8 at z6 HC
      generalize strB x.r.nx = a9 at z7 HC
      generalize x.r.mr = a10 at z8 HC
      clear hx hbl hcell
      have HLa := Lib.hid (HLk.out.alloc hB (.cells #[.int .i64 a0, .int .i64 a1, .int .i64 a2, .int .i64 a3, .bool a4, .string a5, .slice a7 a6 a8, .string a9, .bool a10] 84))
      have HC1 := Lib.hid (HC.out _ (Nat.le_trans hB HLa.out.bl.size) HLa.out.bl HLa.out.pk)
      clear HC
      go_wp2_with fail
      refine HC1.out.mono ?_
      rintro e w3 ⟨rfl, hl3⟩
      have HL3 := Lib.hid (HLa.out.trans hl3)
      rw [← HS.out] at HL3
      clear hl3
      go_wp2_with fail
      go_roundw
      case rel => exact ⟨k + 1, by omega, by go_num, HL3⟩
      case measure => simp [RowKit.intOf]; omega
    · obtain rfl : k = n := by omega
      have hltz : ¬ (k : Int) < (k : Int) := by omega
      have HL4 := Lib.hid (HF.out wr (by
        have := HLk.out
        rwa [← HN.out, List.take_length] at this))
      go_wp2_with fail
      exact bodyPost_end (v := .tuple #[]) (by simp [results, Try.results46]) rfl ⟨rfl, HL4.out⟩

set_option maxHeartbeats 4000000 in
theorem itemsShard_any {g : FuncId} {lb : Array Value} (eg : ∀ args w, (callFunc g args).run Try.prog w = .ok (.enter g args) w) (f : Option (List UInt8) → Sd → Option (List UInt8))
    (w0 w : World) (B gp M : Nat) (st : Option (List UInt8)) (ls : List Sd) (p : Option Addr) (cap : Nat) (hp : RowK KS w0 p ls) (hb0 : Below w0.heap.size w0 w) (hB0 : w0.heap.size ≤ B) (hB : B ≤ w.heap.size) (hpk : PkAt w B gp M st) (hM : M ≤ 9223372036854775807)
    (hr : M ≤ 1000000000000 ∨ (st.getD []).length + 4 ≤ 1000000000000) (hn : ls.length ≤ 1048576)
    (hone : ∀ k, k < ls.length → ∀ w1, B ≤ w1.heap.size → Below B w w1 → PkAt w1 B gp M ((ls.take k).foldl f (numsS M st [(ls.length : Int)])) →
      Calls Try.prog g (#[.pointer (some ⟨gp, 0, none⟩), valSd (ls.getD k default)] ++ lb) w1 fun e w' => e = .returned (.tuple #[]) ∧ Laid w1 B gp M (f ((ls.take k).foldl f (numsS M st [(ls.length : Int)])) (ls.getD k default)) w') :
    Calls Try.prog 48 #[.pointer (some ⟨gp, 0, none⟩), .slice p ls.length cap, .func (.func g) #[] lb] w fun e w' => e = .returned (.tuple #[]) ∧ Laid w B gp M (itemsS M f st ls) w' := by
  have hfn : ∀ w : World, (binOp .eql 100 (.func (.func g) #[] lb) .nilFunc).run Try.prog w = .ok (.bool false) w := fun _ => by kernel_rfl
  have HF := Lib.hid (show ∀ w', Laid w B gp M (ls.foldl f (numsS M st [(ls.length : Int)])) w' → Laid w B gp M (itemsS M f st ls) w' from fun _ h => h)
  generalize itemsS M f st ls = R at HF ⊢
  have hgt : decide ((1048576 : Int) < (ls.length : Int)) = false := by simp; omega
  have hnn : ls.length ≤ 1048576 := hn
  have HL1 := Lib.hid ((Laid.refl hpk).alloc hB (.cells #[.int .i64 (ls.length : Int)] 3))
  have CN := Lib.hid (numbers_any _ B gp M w.heap.size st [(ls.length : Int)] (by have := HL1.out.bl.size; omega) HL1.out.pk hM (by simpa using hr) (new_block w _ _) (by simp))
  obtain ⟨S0, hS0⟩ : ∃ S0, numsS M st [(ls.length : Int)] = S0 := ⟨_, rfl⟩
  rw [hS0] at HF CN hone
  have HP := Lib.hid hp
  have HB0 := Lib.hid hb0
  have HO := Lib.hid hone
  obtain ⟨n, hN⟩ : ∃ n, ls.length = n := ⟨_, rfl⟩
  rw [hN] at hgt hnn HL1 CN ⊢
  have HN := Lib.hid hN
  clear hp hb0 hone hN hS0 hpk hr hn
  go_enter Try.func48, Try.ntmps48
  go_wp2_with fail
  refine CN.out.mono ?_
  rintro e w1 ⟨rfl, hl1⟩
  have HL2 := Lib.hid (HL1.out.trans hl1)
  clear hl1
  go_wp2_with fail
  go_loopw [24] (fun i wr => ∃ k : Nat, k ≤ n ∧ i = .int .i64 k ∧ Hid (Laid w B gp M ((ls.take k).foldl f S0) wr)) (fun i _ => n - (RowKit.intOf i).toNat)
  case atStart => exact ⟨0, Nat.zero_le _, rfl, HL2⟩
  case round =>
    obtain ⟨k, hk, rfl, HLk⟩ := hrel
    by_cases hlt : k < n
    · have hltz : (k : Int) < (n : Int) := by omega
      obtain ⟨b, o, hpe, hbl, hcell⟩ := RowK.cells HP.out (HB0.out.trans (HLk.out.bl.mono hB0)) (show k < ls.length by rw [HN.out]; exact hlt)
      subst hpe
      have HC := Lib.hid (HO.out k (by rw [HN.out]; exact hlt))
      have HS := Lib.hid (foldl_snoc f S0 ls k default (by rw [HN.out]; exact hlt))
      obtain ⟨x, hx⟩ : ∃ x, ls.getD k default = x := ⟨_, rfl⟩
      rw [hx] at hcell HC HS
      have z0 := hcell 0 (by decide)
      have z1 := hcell 1 (by decide)
      have z2 := hcell 2 (by decide)
      have z3 := hcell 3 (by decide)
      simp only [KS, Nat.add_zero] at z0 z1 z2 z3
      obtain ⟨X, hX⟩ : ∃ X, x = X := ⟨_, rfl⟩
      rw [hX] at HS
      have HC := Lib.hid (show ∀ w1, B ≤ w1.heap.size → Below B w w1 → PkAt w1 B gp M ((ls.take k).foldl f S0) → Calls Try.prog g (#[.pointer (some ⟨gp, 0, none⟩), .agg #[.string x.sp.f, .string x.sp.t, .int .i64 x.n, .int .i64 x.e]] ++ lb) w1 fun e w' => e = .returned (.tuple #[]) ∧ Laid w1 B gp M (f ((ls.take k).foldl f S0) X) w' by rw [← hX]; exact HC.out)
      clear hX
      generalize x.sp.f = a0 at z0 HC
      generalize x.sp.t = a1 at z1 HC
      generalize x.n = a2 at z2 HC
      generalize x.e = a3 at z3 HC
      clear hx hbl hcell
      have HLa := Lib.hid (HLk.out.alloc hB (.cells #[.string a0, .string a1, .int .i64 a2, .int .i64 a3] 70))
      have HC1 := Lib.hid (HC.out _ (Nat.le_trans hB HLa.out.bl.size) HLa.out.bl HLa.out.pk)
      clear HC
      go_wp2_with fail
      refine HC1.out.mono ?_
      rintro e w3 ⟨rfl, hl3⟩
      have HL3 := Lib.hid (HLa.out.trans hl3)
      rw [← HS.out] at HL3
      clear hl3
      go_wp2_with fail
      go_roundw
      case rel => exact ⟨k + 1, by omega, by go_num, HL3⟩
      case measure => simp [RowKit.intOf]; omega
    · obtain rfl : k = n := by omega
      have hltz : ¬ (k : Int) < (k : Int) := by omega
      have HL4 := Lib.hid (HF.out wr (by
        have := HLk.out
        rwa [← HN.out, List.take_length] at this))
      go_wp2_with fail
      exact bodyPost_end (v := .tuple #[]) (by simp [results, Try.results48]) rfl ⟨rfl, HL4.out⟩
end Go.Proofs.Ytfadpiipigkocaa
