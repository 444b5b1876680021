/-
  Several texts in one: RegPut, AtSpec, AtFind, AtList.
-/
import Derived.Test.YtfadpiipigkocaaMg16
import Derived.Test.YtfadpiipigkocaaMg09
import Derived.Test.YtfadpiipigkocaaMg14
import Derived.Tactics2
import Derived.Recover
import Derived.Laws.MakeOwn
namespace Go.Gz
open Go.RowKit

/-- the block that p points into is of the type t. -/
def TyP (w : World) (p : Option Addr) (t : TypeId) : Prop := ∀ a, p = some a → ∃ cs fz, w.heap[a.block]? = some (.cells cs t fz)
theorem TyP.none (w : World) (t : TypeId) : TyP w none t := fun a h => by cases h
theorem TyP.below {w w' : World} {p : Option Addr} {t : TypeId} (h : TyP w p t) (hb : Below w.heap.size w w') : TyP w' p t := fun a ha => by
  obtain ⟨cs, fz, e⟩ := h a ha
  exact ⟨cs, fz, by rw [hb.block _ (Array.getElem?_eq_some_iff.1 e).1]; exact e⟩
theorem TyP.kept {F : Nat → Prop} {w w' : World} {p : Option Addr} {t : TypeId} (h : TyP w p t) (hk : KeptF F w w') (hF : ∀ a, p = some a → ¬ F a.block) : TyP w' p t := fun a ha => by
  obtain ⟨cs, fz, e⟩ := h a ha
  exact ⟨cs, fz, by rw [hk.block _ (Array.getElem?_eq_some_iff.1 e).1 (hF a ha)]; exact e⟩
theorem TyP.ne {w : World} {p : Option Addr} {t t' : TypeId} (h : TyP w p t) {b : Nat} {cs : Array Value} {fz : Nat × Nat} (hb : w.heap[b]? = some (.cells cs t' fz)) (hn : t ≠ t') : ∀ a, p = some a → a.block ≠ b := fun a ha e => by
  obtain ⟨cs', fz', h1⟩ := h a ha
  rw [e, hb] at h1
  injection h1 with h1
  injection h1 with _ h1 _
  exact hn h1.symm
theorem TyP.layCells {w : World} {p : Option Addr} {t t' : TypeId} (h : TyP w p t) {b : Nat} {cs : Array Value} {fz : Nat × Nat} (hb : w.heap[b]? = some (.cells cs t' fz)) (hn : t ≠ t') (o : Nat) (vs : List Value) : TyP (layCells w b o vs) p t := fun a ha => by
  obtain ⟨cs', fz', h1⟩ := h a ha
  exact ⟨cs', fz', by rw [layCells_other b vs o w _ (h.ne hb hn a ha)]; exact h1⟩
theorem KeptF.layCells {F : Nat → Prop} {a : World} {b : Nat} (hF : F b) : ∀ (vs : List Value) (o : Nat) (w : World), KeptF F a w → KeptF F a (layCells w b o vs)
  | [], _, _, h => h
  | v :: vs, o, _, h => KeptF.layCells hF vs (o + 1) _ (h.set (p := ⟨b, o, none⟩) hF v)
theorem RowK.layCells {α : Type} [Inhabited α] {K : SK α} {w : World} {p : Option Addr} {L : List α} (h : RowK K w p L) {b : Nat} (hn : ∀ a, p = some a → a.block ≠ b) (o : Nat) (vs : List Value) : RowK K (layCells w b o vs) p L :=
  h.kept (F := fun k => k = b) (KeptF.layCells (F := fun k => k = b) rfl vs o w (KeptF.refl _ _)) hn

structure PutI (w0 : World) (vs : List VP) (si ri o : Nat) (cs : List Value) (t : TypeId) (fz : Nat × Nat) (g : Value → List Value) (L : Nat → Bool) (vals : Nat → Value) (w : World) : Prop where
  kept : KeptF (fun j => j = o) w0 w
  val : ∀ k, L k = true → k ≠ si → (VP.at vs k).f (vals k) w
  wait : L si = true → L ri = true
  obj : w.heap[o]? = some (.cells (if L si then g (vals ri) else cs).toArray t fz)

theorem wp_region_put {P : Program} {id : Nat} {a : Act} {w : World} {l : List Oper} {Q : Exit → Act → World → Prop} (hm : P.follows .mixedOrders = true) (hB : invB l.toArray a.tmps.size = true)
    (vs : List VP) (si ri : Nat) (hw : waitsB l si ri = true) (hlt : si < l.length ∧ ri < l.length ∧ ri ≠ si) (o : Nat) (cs : List Value) (t : TypeId) (fz : Nat × Nat) (g : Value → List Value) (ho : w.heap[o]? = some (.cells cs.toArray t fz))
    (hsta : ∀ k v w' cs' cs'', (VP.at vs k).f v w' → w'.heap[o]? = some (.cells cs' t fz) → (VP.at vs k).f v (layCells w' o 0 cs''))
    (hval : ∀ i opr L vals w', l[i]? = some opr → L i = false → (∀ e ∈ opr.after, Region.binds .any e = true → L e.on = true) → Closed l L → KeptF (fun j => j = o) w w' → (L si = false → w'.heap[o]? = some (.cells cs.toArray t fz)) → (∀ k, L k = true → k ≠ si → (VP.at vs k).f (vals k) w') → i ≠ si →
      StepI P l.toArray Q i opr (frA a l.toArray L vals) w' fun v w'' => (VP.at vs i).f v w'' ∧ Below w'.heap.size w' w'')
    (hstore : ∀ opr L vals w', l[si]? = some opr → L ri = true → (∀ e ∈ opr.after, Region.binds .any e = true → L e.on = true) → Closed l L → KeptF (fun j => j = o) w w' → w'.heap[o]? = some (.cells cs.toArray t fz) → (∀ k, L k = true → k ≠ si → (VP.at vs k).f (vals k) w') →
      StepI P l.toArray Q si opr (frA a l.toArray L vals) w' fun _ w'' => w'' = layCells w' o 0 (g (vals ri)) ∧ (g (vals ri)).length = cs.length)
    (hend : ∀ vals w', KeptF (fun j => j = o) w w' → (∀ k, k < l.length → k ≠ si → (VP.at vs k).f (vals k) w') → w'.heap[o]? = some (.cells (g (vals ri)).toArray t fz) → Q .normal (putsL vals l 0 a) w') : (Code.region id l.toArray true).wp P Q a w := by
  have hol : o < w.heap.size := (Array.getElem?_eq_some_iff.1 ho).1
  refine wp_region_invC hm hB (PutI w vs si ri o cs t fz g) (fun vals => ⟨(KeptF.refl _ _).drew, fun k h => (by cases h), fun h => (by cases h), ?_⟩) ?_ ?_
  · rw [if_neg (by simp)]; exact ho
  · intro i opr L vals w' hi hL hdep hC hI J hJ
    have keepV : ∀ v k, L k = true → updV vals i v k = vals k := fun v k hk => by
      unfold updV
      rw [if_neg (fun e => by subst e; rw [hL] at hk; cases hk)]
    have keepL : ∀ k, k ≠ i → updL L i k = L k := fun k hk => by unfold updL; rw [if_neg hk]
    have doneL : ∀ k, L k = true → updL L i k = true := fun k hk => by unfold updL; split <;> simp [hk]
    have selfL : updL L i i = true := by unfold updL; rw [if_pos rfl]
    have selfV : ∀ v, updV vals i v i = v := fun v => by unfold updV; rw [if_pos rfl]
    by_cases hs : i = si
    · subst hs
      have hri := waits_of hw hi hdep
      have hob := hI.obj
      rw [hL, if_neg (by simp)] at hob
      refine hstore opr L vals w' hi hri hdep hC hI.kept hob hI.val J fun v w'' ⟨hw', hlen⟩ => hJ v w'' ?_
      subst hw'
      refine ⟨KeptF.layCells (F := fun j => j = o) rfl _ _ _ hI.kept, fun k hk hn => ?_, fun _ => doneL _ hri, ?_⟩
      · rw [keepL _ hn] at hk
        rw [keepV _ _ hk]
        exact hsta k _ w' _ _ (hI.val k hk hn) hob
      · rw [selfL, if_pos rfl, keepV _ _ hri]
        exact layCells_all _ hob hlen
    · refine hval i opr L vals w' hi hL hdep hC hI.kept (fun h => by have := hI.obj; rw [h, if_neg (by simp)] at this; exact this) hI.val hs J fun v w'' ⟨hv, hb⟩ => hJ v w'' ?_
      have hok : o < w'.heap.size := Nat.lt_of_lt_of_le hol hI.kept.size
      refine ⟨hI.kept.trans (KeptF.of_below (F := fun j => j = o) hb) fun i _ h => h, fun k hk hn => ?_, fun h => ?_, ?_⟩
      · by_cases e : k = i
        · subst e; rw [selfV]; exact hv
        · rw [keepL k e] at hk
          rw [keepV _ k hk]
          exact (VP.at vs k).hf _ _ _ (hI.val k hk hn) hb
      · rw [keepL _ (Ne.symm hs)] at h
        exact doneL _ (hI.wait h)
      · rw [keepL _ (Ne.symm hs), hb.block o hok, hI.obj]
        by_cases h : L si = true
        · rw [if_pos h, if_pos h, keepV _ _ (hI.wait h)]
        · rw [if_neg h, if_neg h]
  · intro vals w' hI
    have hob := hI.obj
    rw [if_pos (by simpa using hlt.1)] at hob
    exact hend vals w' hI.kept (fun k hk hn => hI.val k (by simpa using hk) hn) hob
end Go.Gz
namespace Go.Proofs.Ytfadpiipigkocaa
open Go.RowKit Go.Gz

/-- what a change answers: the epoch, the shards, the places that are taken away, the error. -/
structure OutA where
  ep : Int
  L : List Sd
  gone : List Int
  err : Int
def errA (e : Int) : OutA := ⟨0, [], [], e⟩
noncomputable def freshB (nodes ep : Int) (L : List Sd) : Bool := mayAB nodes ep L && decide (ep < 268435455)
def splitM (ep : Int) (L : List Sd) (k : ByteArray) (i : Nat) : List Sd := withL L [⟨⟨(L.getD i default).sp.f, k⟩, (L.getD i default).n, ep + 1⟩, ⟨⟨k, (L.getD i default).sp.t⟩, (L.getD i default).n, ep + 1⟩] i 1
def mergeM (ep : Int) (L : List Sd) (i : Nat) : List Sd := withL L [⟨⟨(L.getD i default).sp.f, (L.getD (i + 1) default).sp.t⟩, (L.getD i default).n, ep + 1⟩] i 2
def moveM (ep : Int) (L : List Sd) (i : Nat) (m : Int) : List Sd := withL L [⟨(L.getD i default).sp, m, ep + 1⟩] i 1
def placeA (L : List Sd) (k : ByteArray) : Option Nat := L.findIdx? fun x => hasB x.sp k
noncomputable def splitA (ep : Int) (L : List Sd) (k : ByteArray) : OutA :=
  if freshB 5 ep L = true then
    match placeA L k with
    | none => errA 1
    | some i => if k = (L.getD i default).sp.f then errA 1 else if 12 ≤ L.length then errA 8 else ⟨ep + 1, splitM ep L k i, [(i : Int)], 0⟩
  else errA 1
open Classical in
noncomputable def mergeA (ep : Int) (L : List Sd) (i : Int) : OutA :=
  if freshB 5 ep L = true ∧ 0 ≤ i ∧ i + 1 < L.length then ⟨ep + 1, mergeM ep L i.toNat, [i, i + 1], 0⟩ else errA 1
open Classical in
noncomputable def moveA (ep : Int) (L : List Sd) (i m nodes : Int) : OutA :=
  if freshB nodes ep L = true ∧ 0 ≤ i ∧ i < L.length ∧ 1 ≤ m ∧ m ≤ nodes ∧ m ≠ (L.getD i.toNat default).n then ⟨ep + 1, moveM ep L i.toNat m, [i], 0⟩ else errA 1
def RetO (w : World) (o : OutA) (e : Ending) (w' : World) : Prop :=
  ∃ p c q d, e = .returned (.tuple #[.agg #[.int .i64 o.ep, .slice p o.L.length c], .slice q o.gone.length d, .int .i64 o.err]) ∧ RowK KS w' p o.L ∧ Row w' .i64 q o.gone ∧ (TyP w' p 70 ∧ TyP w' q 3) ∧ Below w.heap.size w w'
def zeroS : Sd := ⟨⟨ByteArray.empty, ByteArray.empty⟩, 0, 0⟩
def ownerA (L : List Sd) (k : ByteArray) : Sd × Bool := match placeA L k with | some i => (L.getD i default, true) | none => (zeroS, false)

theorem place_some {L : List Sd} {k : ByteArray} {i : Nat} (hi : i < L.length) (h1 : hasB (L.getD i default).sp k = true) (h2 : ∀ j, j < i → hasB (L.getD j default).sp k = false) : placeA L k = some i := by
  unfold placeA
  rw [List.findIdx?_eq_some_iff_getElem]
  refine ⟨hi, ?_, fun j hj => ?_⟩
  · have := h1
    rw [List.getD, List.getElem?_eq_getElem hi] at this
    exact this
  · have := h2 j hj
    rw [List.getD, List.getElem?_eq_getElem (by omega)] at this
    simpa using this
theorem place_of {L : List Sd} {k : ByteArray} {i : Nat} (h : placeA L k = some i) : i < L.length ∧ hasB (L.getD i default).sp k = true ∧ ∀ j, j < i → hasB (L.getD j default).sp k = false := by
  unfold placeA at h
  rw [List.findIdx?_eq_some_iff_getElem] at h
  obtain ⟨hi, h1, h2⟩ := h
  refine ⟨hi, by rw [List.getD, List.getElem?_eq_getElem hi]; exact h1, fun j hj => ?_⟩
  rw [List.getD, List.getElem?_eq_getElem (by omega)]
  simpa using h2 j hj
theorem place_none {L : List Sd} {k : ByteArray} (h : placeA L k = none) : ∀ j, j < L.length → hasB (L.getD j default).sp k = false := fun j hj => by
  unfold placeA at h
  rw [List.findIdx?_eq_none_iff] at h
  rw [List.getD, List.getElem?_eq_getElem hj]
  simpa using h _ (List.getElem_mem hj)
theorem fresh_iff (nodes ep : Int) (L : List Sd) : freshB nodes ep L = true ↔ MayA nodes ep L ∧ ep < 268435455 := by
  unfold freshB
  rw [Bool.and_eq_true, mayAB_iff, decide_eq_true_eq]
/-- what a change makes, where it makes any, of an atlas that may be. -/
structure DoneA (ep : Int) (L : List Sd) (nodes : Int) (o : OutA) : Prop where
  may : MayA nodes (ep + 1) o.L
  epo : o.ep = ep + 1
  bnd : ep < 268435455
  gone : 1 ≤ o.gone.length
  new : ∀ x ∈ o.L, x ∈ L ∨ x.e = ep + 1
theorem split_done {ep : Int} {L : List Sd} {k : ByteArray} {nodes : Int} (hm : MayA nodes ep L) (h : (splitA ep L k).err = 0) : DoneA ep L nodes (splitA ep L k) := by
  unfold splitA at h ⊢
  by_cases hf : freshB 5 ep L = true
  · rw [if_pos hf] at h ⊢
    cases hp : placeA L k with
    | none => rw [hp] at h; cases h
    | some i =>
      obtain ⟨h1, h2, -⟩ := place_of hp
      rw [hp] at h
      simp only at h ⊢
      by_cases hk : k = (L.getD i default).sp.f
      · rw [if_pos hk] at h; cases h
      · rw [if_neg hk] at h ⊢
        by_cases hl : 12 ≤ L.length
        · rw [if_pos hl] at h; cases h
        · rw [if_neg hl] at h ⊢
          refine ⟨hm.split h1 (by omega) h2 hk, rfl, ((fresh_iff _ _ _).1 hf).2, by simp, fun x hx => ?_⟩
          rcases withL_mem hx with hx | hx
          · exact Or.inl hx
          · simp only [List.mem_cons, List.not_mem_nil, or_false] at hx
            rcases hx with rfl | rfl <;> exact Or.inr rfl
  · rw [if_neg hf] at h; cases h
theorem merge_done {ep : Int} {L : List Sd} {i : Int} {nodes : Int} (hm : MayA nodes ep L) (h : (mergeA ep L i).err = 0) : DoneA ep L nodes (mergeA ep L i) := by
  unfold mergeA at h ⊢
  by_cases hc : freshB 5 ep L = true ∧ 0 ≤ i ∧ i + 1 < L.length
  · rw [if_pos hc] at h ⊢
    refine ⟨hm.merge (by omega), rfl, ((fresh_iff _ _ _).1 hc.1).2, by simp, fun x hx => ?_⟩
    rcases withL_mem hx with hx | hx
    · exact Or.inl hx
    · simp only [List.mem_cons, List.not_mem_nil, or_false] at hx
      subst hx
      exact Or.inr rfl
  · rw [if_neg hc] at h; cases h
theorem move_done {ep : Int} {L : List Sd} {i m nodes : Int} (hm : MayA nodes ep L) (h : (moveA ep L i m nodes).err = 0) : DoneA ep L nodes (moveA ep L i m nodes) := by
  unfold moveA at h ⊢
  by_cases hc : freshB nodes ep L = true ∧ 0 ≤ i ∧ i < L.length ∧ 1 ≤ m ∧ m ≤ nodes ∧ m ≠ (L.getD i.toNat default).n
  · rw [if_pos hc] at h ⊢
    refine ⟨hm.move (by omega) ⟨hc.2.2.2.1, hc.2.2.2.2.1⟩, rfl, ((fresh_iff _ _ _).1 hc.1).2, by simp, fun x hx => ?_⟩
    rcases withL_mem hx with hx | hx
    · exact Or.inl hx
    · simp only [List.mem_cons, List.not_mem_nil, or_false] at hx
      subst hx
      exact Or.inr rfl
  · rw [if_neg hc] at h; cases h
end Go.Proofs.Ytfadpiipigkocaa
namespace Go.Proofs.Ytfadpiipigkocaa
open Go.RowKit Go.Gz

set_option maxHeartbeats 1000000 in
theorem spanOf_any (x : Sd) (w : World) : Calls Try.prog 70 #[valSd x] w fun e w' => e = .returned (.agg #[.string x.sp.f, .string x.sp.t]) ∧ Below w.heap.size w w' := by
  obtain ⟨⟨f, t⟩, n, e⟩ := x
  unfold valSd
  simp only
  go_enter Try.func70, Try.ntmps70
  go_wp2_with fail
  refine bodyPost_ret (v := .agg #[.string f, .string t]) (by simp [results, Try.results70, go_sem]) rfl ?_
  exact ⟨rfl, ((Below.refl _ _).alloc (Nat.le_refl _) _).alloc (by simp) _⟩

theorem findL_eq (L : List Sd) (k : ByteArray) : idxL ((List.range L.length).map fun j => hasB (L.getD j default).sp k) = match placeA L k with | some i => (i : Int) | none => -1 := by
  cases h : placeA L k with
  | some i =>
    obtain ⟨h1, h2, h3⟩ := place_of h
    simp only
    refine idx_hit _ i (by simpa using h1) ?_ fun j hj => ?_
    · rw [getElem!_pos _ i (by simpa using h1), List.getElem_map, List.getElem_range]; exact h2
    · rw [getElem!_pos _ j (by simp; omega), List.getElem_map, List.getElem_range]; exact h3 j hj
  | none =>
    simp only
    refine idx_miss _ fun j hj => ?_
    rw [getElem!_pos _ j hj, List.getElem_map, List.getElem_range]
    exact place_none h j (by simpa using hj)

def placeZ (L : List Sd) (k : ByteArray) : Int := match placeA L k with | some i => (i : Int) | none => -1
end Go.Proofs.Ytfadpiipigkocaa
namespace Go.Gz
open Go.RowKit
section
variable {P : Program} {α : Type} {K : SK α} {t T : TypeId} {z : Value} {bytes : Nat}
/-- make([]T, 0, n) of structs. -/
theorem make_k (ET : SKT P K t T z bytes) (n : Nat) (hn : n ≤ 1000000) (w : World) : ∃ w', (Instr.makeSlice T (.int .i64 0) (.int .i64 (n : Int))).run P w = .ok (.slice (some ⟨w.heap.size, 0, none⟩) 0 n) w' ∧
    OwnK K w' w.heap.size t (.slice (some ⟨w.heap.size, 0, none⟩) 0 n) [] ∧ w.grownBy w' none := by
  obtain ⟨i0, hi, hz0, hz1, hz2⟩ := info_parts ET.info
  have hb : i0.bytes * n ≤ 281474976710656 := by
    rw [hz2]
    exact Nat.le_trans (Nat.mul_le_mul ET.by_ hn) (by decide)
  exact run_make_own w w.heap.size T t i0 z K.n ET.sl hi hz0 hz1 .i64 .i64 n hb (by unfold maxLen; omega) (Nat.le_refl _)
end
end Go.Gz
namespace Go.Proofs.Ytfadpiipigkocaa
open Go.RowKit Go.Gz

def RetK {α : Type} (K : SK α) (w : World) (t : TypeId) (L : List α) (e : Ending) (w' : World) : Prop := ∃ v, e = .returned v ∧ OwnK K w' w.heap.size t v L ∧ Below w.heap.size w w'

set_option maxHeartbeats 4000000 in
set_option maxRecDepth 100000 in
theorem list_sp (L : List Sd) (p : Option Addr) (c : Nat) (w : World) (hp : RowK KS w p L) (hL : L.length ≤ 1000000) :
    Calls Try.prog 69 #[.slice p L.length c, .func (.func 70) #[] #[]] w (RetK KP w 29 (L.map Sd.sp)) := by
  have eg : ∀ args w, (callFunc 70 args).run Try.prog w = .ok (.enter 70 args) w := fun _ _ => rfl
  obtain ⟨n, hN⟩ : ∃ n, L.length = n := ⟨_, rfl⟩
  have HN := Lib.hid hN
  rw [hN] at hL ⊢
  obtain ⟨w0, hmk, hown, hgr⟩ := make_k skt_span n hL w
  have HO0 := Lib.hid hown
  have HB0 := Lib.hid ((Below.refl w.heap.size w).grown hgr (Nat.le_refl _) (fun g hg => by cases hg))
  have HP := Lib.hid hp
  have HF := Lib.hid (show ∀ v w', OwnK KP w' w.heap.size 29 v (L.map Sd.sp) → Below w.heap.size w w' → RetK KP w 29 (L.map Sd.sp) (.returned v) w' from fun v w' h1 h2 => ⟨v, rfl, h1, h2⟩)
  clear hN hp hown hgr
  go_enter Try.func69, Try.ntmps69
  go_wp2_with fail
  go_loopw [5, 13] (fun v i wr => ∃ k : Nat, i = .int .i64 k ∧ k ≤ n ∧ Hid (OwnK KP wr w.heap.size 29 v ((L.take k).map Sd.sp)) ∧ Hid (Below w.heap.size w wr)) (fun _ i _ => n - (RowKit.intOf i).toNat)
  case atStart => exact ⟨0, rfl, Nat.zero_le _, HO0, HB0⟩
  case round =>
    obtain ⟨k, rfl, hkn, HOW, BW⟩ := hrel
    rcases Nat.lt_or_ge k n with hk | hk
    · have hkz : (k : Int) < (n : Int) := by omega
      have hklt : k < L.length := by rw [HN.out]; exact hk
      obtain ⟨e, he⟩ : ∃ e, L.getD k default = e := ⟨_, rfl⟩
      obtain ⟨pb, po, rfl, hpb, hcell⟩ := HP.out.cells BW.out hklt
      rw [he] at hcell
      have HTK := Lib.hid (show (L.take (k + 1)).map Sd.sp = (L.take k).map Sd.sp ++ [e.sp] by
        rw [List.take_succ_eq_append_getElem hklt, ← he, List.map_append]
        simp [List.getD, hklt])
      have HLK := Lib.hid (show ((L.take k).map Sd.sp).length = k by rw [List.length_map, List.length_take]; omega)
      have CS := Lib.hid (fun w1 => spanOf_any e w1)
      obtain ⟨⟨ef, et⟩, en, ee⟩ := e
      have z0 := hcell 0 (by decide)
      have z1 := hcell 1 (by decide)
      have z2 := hcell 2 (by decide)
      have z3 := hcell 3 (by decide)
      simp only [KS, Nat.add_zero] at z0 z1 z2 z3
      simp only [valSd] at CS
      simp only at HTK
      clear hcell he
      obtain ⟨q, cq, hvq, _⟩ := HOW.out.row
      rw [HLK.out] at hvq
      subst hvq
      obtain ⟨w1, hw1⟩ : ∃ w1, wr.alloc (.cells #[.string ef, .string et, .int .i64 en, .int .i64 ee] 70) = w1 := ⟨_, rfl⟩
      have HB1 := Lib.hid (BW.out.trans ((show Below wr.heap.size wr w1 from hw1 ▸ below_alloc _ _).mono BW.out.size))
      have HO1 := Lib.hid (show OwnK KP w1 w.heap.size 29 _ _ from hw1 ▸ HOW.out.alloc _)
      have HW1 := Lib.hid hw1
      clear hw1
      go_wp2_with fail
      rw [HW1.out]
      refine (CS.out w1).mono ?_
      rintro e w2 ⟨rfl, hb2⟩
      have HB2 := Lib.hid (HB1.out.trans (hb2.mono HB1.out.size))
      have HO2 := Lib.hid (HO1.out.below hb2)
      have HON := Lib.hid (RowK.block KP (L := [⟨ef, et⟩]) (alloc_at w2 (.cells #[.string ef, .string et] 29)))
      clear hb2 CS
      go_wp2_with (at_builtin; refine wpList_app_k skt_span rfl _ _ rfl rfl (HO2.out.alloc _) (some ⟨w2.heap.size, 0, none⟩) 1 [⟨ef, et⟩] rfl HON.out (fun h => by cases h) (by have := HLK.out; simp only [List.length_cons, List.length_nil]; omega) (by have := HB2.out.size; simp; omega) ?_; intro v4 w4 hown4 hgrow4 hat4)
      have HO4 := Lib.hid (show OwnK KP w4 w.heap.size 29 v4 ((L.take (k + 1)).map Sd.sp) by rw [HTK.out]; exact hown4)
      have HB4 := Lib.hid ((HB2.out.alloc HB2.out.size _).grown hgrow4 (by have := HB2.out.size; simp; omega) (fun g hg => (HO2.out.ltB g hg).1))
      exact ⟨⟨k + 1, by go_num, hk, HO4, HB4⟩, by simp [RowKit.intOf]; omega⟩
    · have hkz : ¬ (k : Int) < (n : Int) := by omega
      have HTK := Lib.hid (show L.take k = L from List.take_of_length_le (by rw [HN.out]; omega))
      rw [HTK.out] at HOW
      obtain ⟨q, cq, hvq, _⟩ := HOW.out.row
      rw [List.length_map, HN.out] at hvq
      subst hvq
      go_wp2_with fail
      go_ret
      exact HF.out _ _ HOW.out BW.out

/-- a shard of a span. -/
def shOf (n ep : Int) (s : SP) : Sd := ⟨s, n, ep⟩
end Go.Proofs.Ytfadpiipigkocaa
