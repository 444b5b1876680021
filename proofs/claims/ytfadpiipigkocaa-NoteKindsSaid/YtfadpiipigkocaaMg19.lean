/-
  Several texts in one: RegCapp, PcCan.
-/
import Derived.Test.YtfadpiipigkocaaMg16
import Derived.Test.YtfadpiipigkocaaMg09
import Derived.Test.YtfadpiipigkocaaMg02
namespace Go.Gz
open Go.RowKit

section
variable {α : Type} [Inhabited α] {K : SK α} {t : TypeId} {B : Nat} {v0 : Value} {X M : List α}
structure CappI (K : SK α) (t : TypeId) (B : Nat) (v0 : Value) (X M : List α) (w : World) (o fi : Nat) (cs : Array Value) (tq : TypeId) (fz : Nat × Nat) (ai si : Nat) (os : List (Option Value)) (vs : List VP) (L : Nat → Bool) (vals : Nat → Value) (w' : World) : Prop where
  kept : KeptF (fun j => j = o ∨ v0.ownBlock = some j) w w'
  obj : w'.heap[o]? = some (.cells (if L si then cs.setIfInBounds fi (vals ai) else cs) tq fz)
  old : L ai = false → OwnK K w' B t v0 X
  new : L ai = true → OwnK K w' B t (vals ai) (X ++ M) ∧ (vals ai).ownBlock ≠ some o
  ord : L si = true → L ai = true
  val : ∀ k, L k = true → EqV os k (vals k)
  prd : L ai = false → ∀ k, L k = true → (VP.at vs k).f (vals k) w'

theorem wp_region_capp {P : Program} {id : Nat} {a : Act} {w : World} {l : List Oper} {Q : Exit → Act → World → Prop} (hm : P.follows .mixedOrders = true) (hB : invB l.toArray a.tmps.size = true)
    (os : List (Option Value)) (vs : List VP) (ai si : Nat) (hw1 : waitsB l si ai = true) (hne : si ≠ ai) (hsz : ai < l.length ∧ si < l.length)
    (hos : os[ai]? = some none ∧ os[si]? = some none)
    (o fi : Nat) (cs : Array Value) (tq : TypeId) (fz : Nat × Nat) (ho : w.heap[o]? = some (.cells cs tq fz)) (hog : v0.ownBlock ≠ some o) (hown : OwnK K w B t v0 X) (hBw : B ≤ w.heap.size)
    (hread : ∀ i opr L vals w', l[i]? = some opr → L i = false → (∀ e ∈ opr.after, Region.binds .any e = true → L e.on = true) → Closed l L → KeptF (fun j => j = o ∨ v0.ownBlock = some j) w w' → (L si = false → w'.heap[o]? = some (.cells cs tq fz)) → (∀ k, L k = true → EqV os k (vals k)) → (L ai = false → ∀ k, L k = true → (VP.at vs k).f (vals k) w') → i ≠ ai → i ≠ si →
      StepI P l.toArray Q i opr (frA a l.toArray L vals) w' fun v w'' => EqV os i v ∧ (L ai = false → (VP.at vs i).f v w'') ∧ Below w'.heap.size w' w'')
    (happ : ∀ opr L vals w', l[ai]? = some opr → (∀ e ∈ opr.after, Region.binds .any e = true → L e.on = true) → Closed l L → KeptF (fun j => j = o ∨ v0.ownBlock = some j) w w' → (∀ k, L k = true → EqV os k (vals k)) → (∀ k, L k = true → (VP.at vs k).f (vals k) w') → OwnK K w' B t v0 X → B ≤ w'.heap.size →
      StepI P l.toArray Q ai opr (frA a l.toArray L vals) w' fun v w'' => OwnK K w'' B t v (X ++ M) ∧ w'.grownBy w'' v0.ownBlock ∧ (v.ownBlock = v0.ownBlock ∨ v.ownBlock = some w'.heap.size))
    (hstore : ∀ opr L vals w' q c, l[si]? = some opr → (∀ e ∈ opr.after, Region.binds .any e = true → L e.on = true) → Closed l L → L ai = true → (∀ k, L k = true → EqV os k (vals k)) → vals ai = .slice q (X ++ M).length c → w'.heap[o]? = some (.cells cs tq fz) →
      StepI P l.toArray Q si opr (frA a l.toArray L vals) w' fun _ w'' => w'' = w'.setCell ⟨o, fi, none⟩ (.slice q (X ++ M).length c))
    (hend : ∀ vals w', KeptF (fun j => j = o ∨ v0.ownBlock = some j) w w' → w'.heap[o]? = some (.cells (cs.setIfInBounds fi (vals ai)) tq fz) → OwnK K w' B t (vals ai) (X ++ M) → (∀ k, k < l.length → EqV os k (vals k)) → Q .normal (putsL vals l 0 a) w') : (Code.region id l.toArray true).wp P Q a w := by
  have hol : o < w.heap.size := (Array.getElem?_eq_some_iff.1 ho).1
  refine wp_region_invC hm hB (CappI K t B v0 X M w o fi cs tq fz ai si os vs) (fun vals => ⟨(KeptF.refl _ _).drew, ?_, fun _ => hown, fun h => (by cases h), fun h => (by cases h), fun k h => (by cases h), fun _ k h => (by cases h)⟩) ?_ ?_
  · rw [if_neg (by simp)]; exact ho
  · intro i opr L vals w' hi hL hdep hC hI J hJ
    have keepV : ∀ v k, L k = true → updV vals i v k = vals k := fun v k hk => by
      unfold updV
      rw [if_neg (fun e => by subst e; rw [hL] at hk; cases hk)]
    have keepL : ∀ k, k ≠ i → updL L i k = L k := fun k hk => by unfold updL; rw [if_neg hk]
    have doneL : ∀ k, L k = true → updL L i k = true := fun k hk => by unfold updL; split <;> simp [hk]
    have selfL : updL L i i = true := by unfold updL; rw [if_pos rfl]
    have selfV : ∀ v, updV vals i v i = v := fun v => by unfold updV; rw [if_pos rfl]
    have vstep : ∀ v, EqV os i v → ∀ k, updL L i k = true → EqV os k (updV vals i v k) := fun v hv k hk => by
      by_cases e : k = i
      · subst e; rw [selfV]; exact hv
      · rw [keepL k e] at hk; rw [keepV _ k hk]; exact hI.val k hk
    by_cases ha : i = ai
    · subst ha
      have hns : L si = false := by
        cases h : L si with
        | false => rfl
        | true => have := hI.ord h; rw [hL] at this; cases this
      refine happ opr L vals w' hi hdep hC hI.kept hI.val (hI.prd hL) (hI.old hL) (Nat.le_trans hBw hI.kept.size) J fun v w'' ⟨h3, h4, h5⟩ => hJ v w'' ?_
      have hk2 : KeptF (fun k => v0.ownBlock = some k) w' w'' := KeptF.grown h4 fun g h => h
      refine ⟨hI.kept.trans hk2 fun i _ h => Or.inr h, ?_, fun h => ?_, fun _ => ?_, fun _ => selfL, vstep _ (EqV.no hos.1), fun h => ?_⟩
      · rw [keepL _ hne, hns, if_neg (by simp), hk2.block o (by have := hI.kept.size; omega) (fun h => hog h), hI.obj, hns, if_neg (by simp)]
      · rw [selfL] at h; cases h
      · rw [selfV]
        refine ⟨h3, ?_⟩
        rcases h5 with h5 | h5
        · rw [h5]; exact hog
        · rw [h5]
          intro e
          injection e with e
          have := hI.kept.size
          omega
      · rw [selfL] at h; cases h
    · by_cases hs : i = si
      · subst hs
        have hai := waits_of hw1 hi hdep
        obtain ⟨h1, h2⟩ := hI.new hai
        obtain ⟨q, c, hv, -⟩ := h1.row
        have hob := hI.obj
        rw [hL, if_neg (by simp)] at hob
        refine hstore opr L vals w' q c hi hdep hC hai hI.val hv hob J fun v w'' hw => hJ v w'' ?_
        subst hw
        rw [← hv]
        refine ⟨hI.kept.set (Or.inl rfl) _, ?_, fun h => ?_, fun _ => ?_, fun _ => doneL _ hai, vstep _ (EqV.no hos.2), fun h => ?_⟩
        · rw [selfL, if_pos rfl, keepV _ _ hai]
          exact layCell_block hob fi _
        · rw [keepL _ (Ne.symm hne), hai] at h; cases h
        · rw [keepV _ _ hai]
          exact ⟨h1.setCell h2 _, h2⟩
        · rw [keepL _ (Ne.symm hne), hai] at h; cases h
      · refine hread i opr L vals w' hi hL hdep hC hI.kept (fun h => by have := hI.obj; rw [h, if_neg (by simp)] at this; exact this) hI.val hI.prd ha hs J fun v w'' ⟨hv, hp, hb⟩ => hJ v w'' ?_
        have hok : o < w'.heap.size := Nat.lt_of_lt_of_le hol hI.kept.size
        refine ⟨hI.kept.trans (KeptF.of_below (F := fun _ => False) hb) fun i _ h => h.elim, ?_, fun h => ?_, fun h => ?_, ?_, vstep _ hv, fun h k hk => ?_⟩
        · rw [hb.block o hok, keepL _ (Ne.symm hs)]
          by_cases h : L si = true
          · rw [keepV _ _ (hI.ord h)]; exact hI.obj
          · have := hI.obj; rw [if_neg h] at this ⊢; exact this
        · rw [keepL _ (Ne.symm ha)] at h; exact (hI.old h).below hb
        · rw [keepL _ (Ne.symm ha)] at h
          rw [keepV _ _ h]
          exact ⟨(hI.new h).1.below hb, (hI.new h).2⟩
        · rw [keepL _ (Ne.symm hs), keepL _ (Ne.symm ha)]
          exact hI.ord
        · rw [keepL _ (Ne.symm ha)] at h
          by_cases e : k = i
          · subst e; rw [selfV]; exact hp h
          · rw [keepL k e] at hk
            rw [keepV _ k hk]
            exact (VP.at vs k).hf _ _ _ (hI.prd h k hk) hb
  · intro vals w' hI
    have hsi : (fun i => decide (i < l.length)) si = true := by simpa using hsz.2
    have hai : (fun i => decide (i < l.length)) ai = true := by simpa using hsz.1
    have hob := hI.obj
    rw [if_pos hsi] at hob
    exact hend vals w' hI.kept hob (hI.new hai).1 fun k hk => hI.val k (by simpa using hk)
end
end Go.Gz
namespace Go.Proofs.Ytfadpiipigkocaa

/-- what is read off bytes is what they begin with. -/
def Can {α : Type} (C : Codec α) : Prop := ∀ b x r, C.dec b = .ok (x, r) → b = C.enc x ++ r ∧ C.ok x
theorem be4_numL : ∀ (l : List UInt8), l.length = 4 → be4 (numL l) = l
  | [a, b, c, d], _ => by
    have ha := u8_lt a
    have hb := u8_lt b
    have hc := u8_lt c
    have hd := u8_lt d
    simp only [numL, be4, List.foldl]
    have e1 : UInt8.ofNat ((((0 * 256 + a.toNat) * 256 + b.toNat) * 256 + c.toNat) * 256 + d.toNat) = d := UInt8.toNat_inj.1 (by rw [of8]; omega)
    have e2 : UInt8.ofNat (((((0 * 256 + a.toNat) * 256 + b.toNat) * 256 + c.toNat) * 256 + d.toNat) / 256) = c := UInt8.toNat_inj.1 (by rw [of8]; omega)
    have e3 : UInt8.ofNat (((((0 * 256 + a.toNat) * 256 + b.toNat) * 256 + c.toNat) * 256 + d.toNat) / 65536) = b := UInt8.toNat_inj.1 (by rw [of8]; omega)
    have e4 : UInt8.ofNat (((((0 * 256 + a.toNat) * 256 + b.toNat) * 256 + c.toNat) * 256 + d.toNat) / 16777216) = a := UInt8.toNat_inj.1 (by rw [of8]; omega)
    rw [e1, e2, e3, e4]
theorem can_num : Can numC := by
  intro b x r h
  have h : decN b = .ok (x, r) := h
  unfold decN at h
  by_cases h4 : b.length < 4
  · rw [if_pos h4] at h; cases h
  · rw [if_neg h4] at h
    by_cases h5 : 268435456 ≤ numL (b.take 4)
    · rw [if_pos h5] at h; cases h
    · rw [if_neg h5] at h
      injection h with h
      injection h with h1 h2
      subst h1 h2
      refine ⟨?_, by show _ < _; omega⟩
      show b = be4 (numL (b.take 4)) ++ b.drop 4
      rw [be4_numL _ (by rw [List.length_take]; omega), List.take_append_drop]
theorem can_text : Can textC := by
  intro b x r h
  have h : decT b = .ok (x, r) := h
  unfold decT at h
  cases hn : decN b with
  | error e => rw [hn] at h; cases h
  | ok y =>
    obtain ⟨n, s⟩ := y
    rw [hn] at h
    simp only at h
    obtain ⟨h1, h2⟩ := can_num b n s hn
    have h2 : n < 268435456 := h2
    by_cases hs : s.length < n
    · rw [if_pos hs] at h; cases h
    · rw [if_neg hs] at h
      injection h with h
      injection h with h3 h4
      subst h3 h4
      have hl : (s.take n).length = n := by rw [List.length_take]; omega
      refine ⟨?_, by show _ < _; omega⟩
      show b = (be4 (s.take n).length ++ s.take n) ++ s.drop n
      rw [hl, List.append_assoc, List.take_append_drop]; exact h1
theorem can_truth : Can truthC := by
  intro b x r h
  have h : decB b = .ok (x, r) := h
  cases b with
  | nil => cases h
  | cons y s =>
    have h : (if y = 0 then .ok (false, s) else if y = 1 then .ok (true, s) else .error 5 : Except Nat (Bool × List UInt8)) = .ok (x, r) := h
    by_cases h0 : y = 0
    · rw [if_pos h0] at h
      injection h with h
      injection h with h1 h2
      subst h0 h1 h2
      exact ⟨rfl, trivial⟩
    · rw [if_neg h0] at h
      by_cases h1 : y = 1
      · rw [if_pos h1] at h
        injection h with h
        injection h with h2 h3
        subst h1 h2 h3
        exact ⟨rfl, trivial⟩
      · rw [if_neg h1] at h; cases h
theorem can_pair {α β : Type} {A : Codec α} {B : Codec β} (ha : Can A) (hb : Can B) : Can (A.pair B) := by
  intro b x r h
  have h : decP A B b = .ok (x, r) := h
  unfold decP at h
  cases h1 : A.dec b with
  | error e => rw [h1] at h; cases h
  | ok y =>
    obtain ⟨u, s⟩ := y
    rw [h1] at h
    simp only at h
    cases h2 : B.dec s with
    | error e => rw [h2] at h; cases h
    | ok z =>
      obtain ⟨v, t⟩ := z
      rw [h2] at h
      injection h with h
      injection h with h3 h4
      subst h3 h4
      obtain ⟨e1, o1⟩ := ha b u s h1
      obtain ⟨e2, o2⟩ := hb s v t h2
      refine ⟨?_, o1, o2⟩
      show b = (A.enc u ++ B.enc v) ++ t
      rw [e1, e2, List.append_assoc]
theorem can_rows {α : Type} {A : Codec α} (ha : Can A) : ∀ (n : Nat) (b : List UInt8) (l : List α) (r : List UInt8), decR A n b = .ok (l, r) → b = encR A l ++ r ∧ l.length = n ∧ ∀ x ∈ l, A.ok x
  | 0, b, l, r, h => by
    injection h with h
    injection h with h1 h2
    subst h1 h2
    exact ⟨rfl, rfl, fun x hx => by cases hx⟩
  | n + 1, b, l, r, h => by
    unfold decR at h
    cases h1 : A.dec b with
    | error e => rw [h1] at h; cases h
    | ok y =>
      obtain ⟨u, s⟩ := y
      rw [h1] at h
      simp only at h
      cases h2 : decR A n s with
      | error e => rw [h2] at h; cases h
      | ok z =>
        obtain ⟨v, t⟩ := z
        rw [h2] at h
        injection h with h
        injection h with h3 h4
        subst h3 h4
        obtain ⟨e1, o1⟩ := ha b u s h1
        obtain ⟨e2, l2, o2⟩ := can_rows ha n s v t h2
        refine ⟨?_, by rw [List.length_cons, l2], fun x hx => ?_⟩
        · show b = (A.enc u ++ encR A v) ++ t
          rw [e1, e2, List.append_assoc]
        · rcases List.mem_cons.1 hx with rfl | hx
          · exact o1
          · exact o2 x hx
theorem can_list {α : Type} {A : Codec α} (ha : Can A) : Can (Codec.list A) := by
  intro b x r h
  have h : decL A b = .ok (x, r) := h
  unfold decL at h
  cases hn : decN b with
  | error e => rw [hn] at h; cases h
  | ok y =>
    obtain ⟨n, s⟩ := y
    rw [hn] at h
    simp only at h
    obtain ⟨h1, h2⟩ := can_num b n s hn
    have h2 : n < 268435456 := h2
    obtain ⟨e2, l2, o2⟩ := can_rows ha n s x r h
    refine ⟨?_, ⟨by omega, o2⟩⟩
    show b = (be4 x.length ++ encR A x) ++ r
    rw [l2, List.append_assoc, ← e2]; exact h1

/-- a part that is packed itself: a text of at most M bytes that is read wholly. -/
def rdPart {α : Type} (M : Nat) (A : Codec α) (t : List UInt8) : Except Nat α := if M < t.length then .error 3 else readL A t
def decPart {α : Type} (M : Nat) (A : Codec α) (b : List UInt8) : Except Nat (α × List UInt8) :=
  match decT b with
  | .error e => .error e
  | .ok (t, r) => match rdPart M A t with
    | .error e => .error e
    | .ok x => .ok (x, r)
def Codec.part {α : Type} (M : Nat) (A : Codec α) : Codec α where
  enc x := encT (A.enc x)
  ok x := A.ok x ∧ (A.enc x).length ≤ M ∧ (A.enc x).length < 268435456
  dec := decPart M A
  rt x r h := by
    unfold decPart
    rw [show decT (encT (A.enc x) ++ r) = .ok (A.enc x, r) from textC.rt (A.enc x) r h.2.2]
    simp only
    unfold rdPart
    rw [if_neg (by omega), read_enc A x h.1]
  cut x k h hk := by
    unfold decPart
    rw [show decT ((encT (A.enc x)).take k) = .error 7 from textC.cut (A.enc x) k h.2.2 hk]
theorem can_part {α : Type} {A : Codec α} (M : Nat) (ha : Can A) : Can (A.part M) := by
  intro b x r h
  have h : decPart M A b = .ok (x, r) := h
  unfold decPart at h
  cases h1 : decT b with
  | error e => rw [h1] at h; cases h
  | ok y =>
    obtain ⟨t, s⟩ := y
    rw [h1] at h
    simp only at h
    obtain ⟨e1, o1⟩ := can_text b t s h1
    cases h2 : rdPart M A t with
    | error e => rw [h2] at h; cases h
    | ok z =>
      rw [h2] at h
      injection h with h
      injection h with h3 h4
      subst h3 h4
      unfold rdPart at h2
      by_cases hM : M < t.length
      · rw [if_pos hM] at h2; cases h2
      · rw [if_neg hM] at h2
        unfold readL at h2
        cases h5 : A.dec t with
        | error e => rw [h5] at h2; cases h2
        | ok y =>
          obtain ⟨u, q⟩ := y
          rw [h5] at h2
          simp only at h2
          by_cases hq : q = []
          · rw [if_pos hq] at h2
            injection h2 with h2
            subst h2 hq
            obtain ⟨e5, o5⟩ := ha t u [] h5
            rw [List.append_nil] at e5
            subst e5
            exact ⟨e1, o5, by omega, o1⟩
          · rw [if_neg hq] at h2; cases h2
theorem read_can {α : Type} {A : Codec α} (ha : Can A) {b : List UInt8} {x : α} (h : readL A b = .ok x) : b = A.enc x ∧ A.ok x := by
  unfold readL at h
  cases h5 : A.dec b with
  | error e => rw [h5] at h; cases h
  | ok y =>
    obtain ⟨u, q⟩ := y
    rw [h5] at h
    simp only at h
    by_cases hq : q = []
    · rw [if_pos hq] at h
      injection h with h
      subst h hq
      obtain ⟨e5, o5⟩ := ha b u [] h5
      rw [List.append_nil] at e5
      exact ⟨e5, o5⟩
    · rw [if_neg hq] at h; cases h
theorem can_ask : Can askC := can_pair can_num (can_pair can_num (can_pair can_num (can_pair can_num (can_pair can_text (can_pair can_text (can_pair can_text can_text))))))
theorem can_reply : Can replyC := can_pair can_num (can_pair can_num (can_pair can_num (can_pair can_truth (can_pair can_text (can_pair (can_list (can_pair can_text can_text)) (can_pair can_text can_truth))))))
end Go.Proofs.Ytfadpiipigkocaa
