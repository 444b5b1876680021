/-
  Several texts in one: NtBdR, NtMayM, NtFit, NtVarM.
-/
import Derived.Test.YtfadpiipigkocaaNtSmU
import Derived.Test.YtfadpiipigkocaaMg15
import Derived.Test.YtfadpiipigkocaaMg26
import Derived.Test.YtfadpiipigkocaaMg21
import Derived.Test.YtfadpiipigkocaaMg24
namespace Go.Proofs.Ytfadpiipigkocaa
open Go.RowKit Go.Gz

theorem sumZ_leR (ls : List RecL) (h : RchL ls) (m : Nat) (hm : ls.length ≤ m) : sumZ szL ls ≤ 281474976702464 * m := by
  induction ls generalizing m with
  | nil => exact Nat.zero_le _
  | cons x ls ih =>
    rw [List.length_cons] at hm
    obtain ⟨h1, h2⟩ := h x (List.mem_cons_self ..)
    have := ih (fun r hr => h r (List.mem_cons_of_mem _ hr)) (m - 1) (by omega)
    have e : 281474976702464 * m = 281474976702464 * (m - 1) + 281474976702464 := by omega
    show szL x + sumZ szL ls ≤ _
    unfold szL at this ⊢
    omega
theorem wrap_small {x : Nat} {b : Int} (h : wrap64 (x : Int) ≤ b) (hx : x ≤ 9223372036854775807) : (x : Int) ≤ b := by
  have : wrap64 (x : Int) = x := by unfold wrap64; omega
  omega
theorem lenR_small {r : RepL} (h1 : wrap64 (lenR r : Nat) ≤ 50000) (h2 : RchR r) (h3 : r.ls.length ≤ 300) : lenR r ≤ 50000 := by
  have h4 := sumZ_leR r.ls h2.ls 300 h3
  have h5 := h2.v
  have h6 := h2.nx
  have := wrap_small h1 (by unfold lenR; omega)
  omega
theorem szRs_is : ∀ ls : List RecL, szRs ls = 8 * ls.length + sumZ szL ls
  | [] => rfl
  | x :: ls => by
    have := szRs_is ls
    show 8 + x.1.length + x.2.length + szRs ls = 8 * (ls.length + 1) + (szL x + sumZ szL ls)
    unfold szL at this ⊢
    omega
theorem rep_small {r : RepL} (h1 : wrap64 (lenR r : Nat) ≤ 50000) (h2 : RchR r) (h3 : r.ls.length ≤ 300) : r.v.length + r.nx.length + szRs r.ls ≤ 1000000000000 := by
  have h4 := lenR_small h1 h2 h3
  rw [szRs_is]
  unfold lenR at h4
  omega
theorem txt_small {n : NtL} (h1 : NtLit n) (h2 : NtRch n) (h3 : NtFew n) : txtN n ≤ 20000 := by
  have h4 := sumZ_leR n.ls h2.ls 100 h3.ll
  have a1 := h2.ask.t
  have a2 := h2.ask.v
  have a3 := h2.ask.f
  have a4 := h2.ask.u
  have a5 := h2.sf
  have a6 := h2.st
  have := wrap_small h1.txt (by unfold txtN; simp only [strB_size]; omega)
  omega
theorem ask_small {n : NtL} (h1 : NtLit n) (h2 : NtRch n) (h3 : NtFew n) : n.ask.t.length + n.ask.v.length + n.ask.f.length + n.ask.u.length ≤ 1000000000000 := by
  have h4 := txt_small h1 h2 h3
  unfold txtN at h4
  simp only [strB_size] at h4
  omega
end Go.Proofs.Ytfadpiipigkocaa
namespace Go.Proofs.Ytfadpiipigkocaa
open Go.RowKit Go.Gz

theorem num_some {st : Option (List UInt8)} {x : Int} (h : st.isSome = true) (hx : 0 ≤ x ∧ x ≤ 268435455) (hl : (st.getD []).length + 4 ≤ MX) : (numS MX st x).isSome = true := by
  obtain ⟨b, rfl⟩ := Option.isSome_iff_exists.1 h
  unfold numS
  rw [if_pos hx]
  show (if b.length + (be4 x.toNat).length ≤ MX then _ else _ : Option (List UInt8)).isSome = true
  rw [if_pos (show b.length + (be4 x.toNat).length ≤ MX from hl)]
  rfl
theorem text_some {st : Option (List UInt8)} {l : List UInt8} (h : st.isSome = true) (hx : l.length ≤ 268435455) (hl : (st.getD []).length + 4 + l.length ≤ MX) : (textS MX st l).isSome = true := by
  have h1 := num_some (x := (l.length : Int)) h (by omega) (by omega)
  have h2 := numS_len MX st (l.length : Int)
  obtain ⟨b, hb⟩ := Option.isSome_iff_exists.1 h1
  unfold textS
  rw [hb] at h2 ⊢
  rw [Option.getD_some] at h2
  show (if b.length + l.length ≤ MX then _ else _ : Option (List UInt8)).isSome = true
  rw [if_pos (by omega)]
  rfl
theorem texts_some : ∀ (xs : List (List UInt8)) (st : Option (List UInt8)), st.isSome = true → (∀ l ∈ xs, l.length ≤ 268435455) → (st.getD []).length + sizeU xs ≤ MX → (textsS MX st xs).isSome = true
  | [], st, h, _, _ => h
  | x :: xs, st, h, hx, hl => by
    have e1 : tlU x = x.length := if_pos (by have := hx x (List.mem_cons_self ..); omega)
    have e2 : sizeU (x :: xs) = 4 + tlU x + sizeU xs := rfl
    have e3 := textS_lenU MX st x
    refine texts_some xs (textS MX st x) (text_some h (hx x (List.mem_cons_self ..)) (by omega)) (fun l h => hx l (List.mem_cons_of_mem _ h)) (by omega)
theorem nums_some : ∀ (xs : List Int) (st : Option (List UInt8)), st.isSome = true → (∀ x ∈ xs, 0 ≤ x ∧ x ≤ 268435455) → (st.getD []).length + 4 * xs.length ≤ MX → (numsS MX st xs).isSome = true
  | [], st, h, _, _ => h
  | x :: xs, st, h, hx, hl => by
    rw [List.length_cons] at hl
    have e3 := numS_len MX st x
    exact nums_some xs (numS MX st x) (num_some h (hx x (List.mem_cons_self ..)) (by omega)) (fun l h => hx l (List.mem_cons_of_mem _ h)) (by omega)
theorem fold_some' {α : Type} (f : Option (List UInt8) → α → Option (List UInt8)) (sz : α → Nat) (hf : ∀ st x, ((f st x).getD []).length ≤ (st.getD []).length + sz x) : ∀ (xs : List α) (st : Option (List UInt8)), st.isSome = true → (∀ x ∈ xs, ∀ st, st.isSome = true → (st.getD []).length + sz x ≤ MX → (f st x).isSome = true) → (st.getD []).length + sumZ sz xs ≤ MX → (xs.foldl f st).isSome = true
  | [], st, h, _, _ => h
  | x :: xs, st, h, hx, hl => by
    have e2 : sumZ sz (x :: xs) = sz x + sumZ sz xs := rfl
    have e3 := hf st x
    exact fold_some' f sz hf xs (f st x) (hx x (List.mem_cons_self ..) st h (by omega)) (fun y hy => hx y (List.mem_cons_of_mem _ hy)) (by omega)
theorem itemsM_some {α : Type} (f : Option (List UInt8) → α → Option (List UInt8)) (sz : α → Nat) (hf : ∀ st x, ((f st x).getD []).length ≤ (st.getD []).length + sz x) (xs : List α) (st : Option (List UInt8)) (h : st.isSome = true) (hn : xs.length ≤ 268435455)
    (hx : ∀ x ∈ xs, ∀ st, st.isSome = true → (st.getD []).length + sz x ≤ MX → (f st x).isSome = true) (hl : (st.getD []).length + 4 + sumZ sz xs ≤ MX) : (itemsS MX f st xs).isSome = true := by
  unfold itemsS
  have e := numsS_len MX [(xs.length : Int)] st
  rw [List.length_singleton] at e
  exact fold_some' f sz hf xs _ (nums_some _ _ h (fun x hx => by obtain rfl := List.mem_singleton.1 hx; omega) (by rw [List.length_singleton]; omega)) hx (by omega)
theorem part_some {st S : Option (List UInt8)} (h : st.isSome = true) (hS : S.isSome = true) (hl : (S.getD []).length ≤ 32768) (hr : (st.getD []).length + 4 + (S.getD []).length ≤ MX) : (partS MX st S).isSome = true := by
  obtain ⟨b, rfl⟩ := Option.isSome_iff_exists.1 hS
  rw [Option.getD_some] at hl hr
  exact texts_some [b] st h (fun l hl' => by obtain rfl := List.mem_singleton.1 hl'; omega) (by
    have : sizeU [b] = 4 + tlU b + 0 := rfl
    have := tlU_le b
    omega)
/-- a note whose parts can be laid. -/
structure LayOk (n : NtL) : Prop where
  kd : 0 ≤ n.kd ∧ n.kd ≤ 268435455
  fr : 0 ≤ n.fr ∧ n.fr ≤ 268435455
  to_ : 0 ≤ n.to_ ∧ n.to_ ≤ 268435455
  ep : 0 ≤ n.ep ∧ n.ep ≤ 268435455
  tk : 0 ≤ n.tk ∧ n.tk ≤ 268435455
  ask : (askS n.ask).isSome = true
  rep : (repS n.rep).isSome = true
  sf : n.sf.length ≤ 268435455
  st : n.st.length ≤ 268435455
  lsn : n.ls.length ≤ 268435455
  ls : ∀ x ∈ n.ls, x.1.length ≤ 268435455 ∧ x.2.length ≤ 268435455
  lan : n.la.length ≤ 268435455
  la : ∀ e ∈ n.la, (0 ≤ e.s ∧ e.s ≤ 268435455) ∧ (repS e.r).isSome = true
  ae : 0 ≤ n.ae ∧ n.ae ≤ 268435455
  shn : n.sh.length ≤ 268435455
  sh : ∀ x ∈ n.sh, (x.sp.f.size ≤ 268435455 ∧ x.sp.t.size ≤ 268435455) ∧ (0 ≤ x.n ∧ x.n ≤ 268435455) ∧ 0 ≤ x.e ∧ x.e ≤ 268435455
  size : sizeN n ≤ 999999999000
theorem LayOk.some {n : NtL} (h : LayOk n) : (layN n).isSome = true := by
  have hM : (1000000000000 : Nat) ≤ MX := by decide
  have L := lay_len n
  have hs := h.size
  unfold sizeN at hs
  have h1 : (lay1 n).isSome = true := nums_some _ _ rfl (by
    intro x hx
    simp only [List.mem_cons, List.not_mem_nil, or_false] at hx
    rcases hx with rfl | rfl | rfl | rfl | rfl
    · exact h.kd
    · exact h.fr
    · exact h.to_
    · exact h.ep
    · exact h.tk) (by show (20 : Nat) ≤ MX; omega)
  have h2 : (lay2 n).isSome = true := part_some h1 h.ask (askS_len' n.ask) (by have := L.l1; have := askS_len' n.ask; omega)
  have h3 : (lay3 n).isSome = true := part_some h2 h.rep (repS_len n.rep) (by have := L.l2; have := repS_len n.rep; omega)
  have h4 : (lay4 n).isSome = true := texts_some _ _ h3 (by
    intro l hl
    simp only [List.mem_cons, List.not_mem_nil, or_false] at hl
    rcases hl with rfl | rfl
    · exact h.sf
    · exact h.st) (by have := L.l3; omega)
  have h5 : (lay5 n).isSome = true := itemsM_some (recF MX) szR (recF_len MX) n.ls _ h4 h.lsn (fun x hx st hst hl => texts_some _ _ hst (by
    intro l hl'
    simp only [List.mem_cons, List.not_mem_nil, or_false] at hl'
    rcases hl' with rfl | rfl
    · exact (h.ls x hx).1
    · exact (h.ls x hx).2) hl) (by have := L.l4; omega)
  have h6 : (lay6 n).isSome = true := itemsM_some (lastS MX) szE (lastS_len MX) n.la _ h5 h.lan (fun x hx st hst hl => by
    have e := numsS_len MX [x.s] st
    rw [List.length_singleton] at e
    unfold szE at hl
    exact part_some (nums_some _ _ hst (fun y hy => by obtain rfl := List.mem_singleton.1 hy; exact (h.la x hx).1) (by rw [List.length_singleton]; omega)) (h.la x hx).2 (repS_len x.r) (by omega)) (by have := L.l5; omega)
  have h7 : (lay7 n).isSome = true := nums_some _ _ h6 (fun y hy => by obtain rfl := List.mem_singleton.1 hy; exact h.ae) (by have := L.l6; rw [List.length_singleton]; omega)
  exact itemsM_some (shardS MX) szH (shardS_len MX) n.sh _ h7 h.shn (fun x hx st hst hl => by
    have e := textsS_lenU MX [x.sp.f.data.toList, x.sp.t.data.toList] st
    unfold szH at hl
    refine nums_some _ _ (texts_some _ _ hst (fun l hl' => ?_) (by omega)) (fun y hy => ?_) (by show _ + 8 ≤ _; omega)
    · simp only [List.mem_cons, List.not_mem_nil, or_false] at hl'
      rcases hl' with rfl | rfl
      · exact (h.sh x hx).1.1
      · exact (h.sh x hx).1.2
    · simp only [List.mem_cons, List.not_mem_nil, or_false] at hy
      rcases hy with rfl | rfl
      · exact (h.sh x hx).2.1
      · exact (h.sh x hx).2.2) (by have := L.l7; omega)
end Go.Proofs.Ytfadpiipigkocaa
namespace Go.Proofs.Ytfadpiipigkocaa
open Go.RowKit Go.Gz

theorem bare_iff (n : NtL) : bareB n = true ↔ (n.ep = 0 ∧ n.tk = 0 ∧ n.ask = askZ ∧ (n.sf = [] ∧ n.st = []) ∧ n.rep = repZ ∧ (n.ls = [] ∧ n.la = []) ∧ (n.ae = 0 ∧ n.sh = [])) := by
  unfold bareB
  exact @decide_eq_true_iff _ (Classical.propDecidable _)
/-- what a note's kind does not have, it has not. -/
structure Fit (n : NtL) : Prop where
  k : 1 ≤ n.kd ∧ n.kd ≤ 12
  ask : n.kd = 1 ∨ n.ask = askZ
  rep : n.kd = 2 ∨ n.rep = repZ
  tk : n.kd = 5 ∨ n.kd = 6 ∨ n.tk = 0
  sp : 7 ≤ n.kd ∨ (n.sf = [] ∧ n.st = []) ∧ n.ep = 0
  li : n.kd = 8 ∨ n.kd = 9 ∨ (n.ls = [] ∧ n.la = [])
  mp : (n.kd = 4 ∨ n.kd = 6) ∧ mayAB 5 n.ae n.sh = true ∨ (n.kd ≠ 4 ∧ n.kd ≠ 6) ∧ n.ae = 0 ∧ n.sh = []
theorem fits_iff (n : NtL) : fitsB n = true ↔ Fit n := by
  unfold fitsB
  by_cases h1 : n.kd = 1
  · rw [if_pos h1]
    rw [bare_iff]
    constructor
    · rintro ⟨hep, htk, hask, ⟨hsf, hst⟩, hrep, ⟨hls, hla⟩, hae, hsh⟩
      exact ⟨by omega, Or.inl h1, Or.inr hrep, Or.inr (Or.inr htk), Or.inr ⟨⟨hsf, hst⟩, hep⟩, Or.inr (Or.inr ⟨hls, hla⟩), Or.inr ⟨by omega, hae, hsh⟩⟩
    · intro h
      obtain ⟨-, h_ask, h_rep, h_tk, h_sp, h_li, h_mp⟩ := h
      exact ⟨(h_sp.resolve_left (by omega)).2, (h_tk.resolve_left (by omega)).resolve_left (by omega), rfl, (h_sp.resolve_left (by omega)).1, h_rep.resolve_left (by omega), (h_li.resolve_left (by omega)).resolve_left (by omega), (h_mp.resolve_left (fun h => by have := h.1; omega)).2.1, (h_mp.resolve_left (fun h => by have := h.1; omega)).2.2⟩
  rw [if_neg h1]
  by_cases h2 : n.kd = 2
  · rw [if_pos h2]
    rw [bare_iff]
    constructor
    · rintro ⟨hep, htk, hask, ⟨hsf, hst⟩, hrep, ⟨hls, hla⟩, hae, hsh⟩
      exact ⟨by omega, Or.inr hask, Or.inl h2, Or.inr (Or.inr htk), Or.inr ⟨⟨hsf, hst⟩, hep⟩, Or.inr (Or.inr ⟨hls, hla⟩), Or.inr ⟨by omega, hae, hsh⟩⟩
    · intro h
      obtain ⟨-, h_ask, h_rep, h_tk, h_sp, h_li, h_mp⟩ := h
      exact ⟨(h_sp.resolve_left (by omega)).2, (h_tk.resolve_left (by omega)).resolve_left (by omega), h_ask.resolve_left (by omega), (h_sp.resolve_left (by omega)).1, rfl, (h_li.resolve_left (by omega)).resolve_left (by omega), (h_mp.resolve_left (fun h => by have := h.1; omega)).2.1, (h_mp.resolve_left (fun h => by have := h.1; omega)).2.2⟩
  rw [if_neg h2]
  by_cases h3 : n.kd = 3
  · rw [if_pos h3]
    rw [bare_iff]
    constructor
    · rintro ⟨hep, htk, hask, ⟨hsf, hst⟩, hrep, ⟨hls, hla⟩, hae, hsh⟩
      exact ⟨by omega, Or.inr hask, Or.inr hrep, Or.inr (Or.inr htk), Or.inr ⟨⟨hsf, hst⟩, hep⟩, Or.inr (Or.inr ⟨hls, hla⟩), Or.inr ⟨by omega, hae, hsh⟩⟩
    · intro h
      obtain ⟨-, h_ask, h_rep, h_tk, h_sp, h_li, h_mp⟩ := h
      exact ⟨(h_sp.resolve_left (by omega)).2, (h_tk.resolve_left (by omega)).resolve_left (by omega), h_ask.resolve_left (by omega), (h_sp.resolve_left (by omega)).1, h_rep.resolve_left (by omega), (h_li.resolve_left (by omega)).resolve_left (by omega), (h_mp.resolve_left (fun h => by have := h.1; omega)).2.1, (h_mp.resolve_left (fun h => by have := h.1; omega)).2.2⟩
  rw [if_neg h3]
  by_cases h5 : n.kd = 5
  · rw [if_pos h5]
    rw [bare_iff]
    constructor
    · rintro ⟨hep, htk, hask, ⟨hsf, hst⟩, hrep, ⟨hls, hla⟩, hae, hsh⟩
      exact ⟨by omega, Or.inr hask, Or.inr hrep, Or.inl h5, Or.inr ⟨⟨hsf, hst⟩, hep⟩, Or.inr (Or.inr ⟨hls, hla⟩), Or.inr ⟨by omega, hae, hsh⟩⟩
    · intro h
      obtain ⟨-, h_ask, h_rep, h_tk, h_sp, h_li, h_mp⟩ := h
      exact ⟨(h_sp.resolve_left (by omega)).2, rfl, h_ask.resolve_left (by omega), (h_sp.resolve_left (by omega)).1, h_rep.resolve_left (by omega), (h_li.resolve_left (by omega)).resolve_left (by omega), (h_mp.resolve_left (fun h => by have := h.1; omega)).2.1, (h_mp.resolve_left (fun h => by have := h.1; omega)).2.2⟩
  rw [if_neg h5]
  by_cases h6 : n.kd = 6
  · rw [if_pos h6]
    rw [Bool.and_eq_true, bare_iff]
    constructor
    · rintro ⟨hmay, hep, htk, hask, ⟨hsf, hst⟩, hrep, ⟨hls, hla⟩, hae, hsh⟩
      exact ⟨by omega, Or.inr hask, Or.inr hrep, Or.inr (Or.inl h6), Or.inr ⟨⟨hsf, hst⟩, hep⟩, Or.inr (Or.inr ⟨hls, hla⟩), Or.inl ⟨by omega, hmay⟩⟩
    · intro h
      obtain ⟨-, h_ask, h_rep, h_tk, h_sp, h_li, h_mp⟩ := h
      exact ⟨(h_mp.resolve_right (fun h => by have := h.1; omega)).2, (h_sp.resolve_left (by omega)).2, rfl, h_ask.resolve_left (by omega), (h_sp.resolve_left (by omega)).1, h_rep.resolve_left (by omega), (h_li.resolve_left (by omega)).resolve_left (by omega), rfl, rfl⟩
  rw [if_neg h6]
  by_cases h4 : n.kd = 4
  · rw [if_pos h4]
    rw [Bool.and_eq_true, bare_iff]
    constructor
    · rintro ⟨hmay, hep, htk, hask, ⟨hsf, hst⟩, hrep, ⟨hls, hla⟩, hae, hsh⟩
      exact ⟨by omega, Or.inr hask, Or.inr hrep, Or.inr (Or.inr htk), Or.inr ⟨⟨hsf, hst⟩, hep⟩, Or.inr (Or.inr ⟨hls, hla⟩), Or.inl ⟨by omega, hmay⟩⟩
    · intro h
      obtain ⟨-, h_ask, h_rep, h_tk, h_sp, h_li, h_mp⟩ := h
      exact ⟨(h_mp.resolve_right (fun h => by have := h.1; omega)).2, (h_sp.resolve_left (by omega)).2, (h_tk.resolve_left (by omega)).resolve_left (by omega), h_ask.resolve_left (by omega), (h_sp.resolve_left (by omega)).1, h_rep.resolve_left (by omega), (h_li.resolve_left (by omega)).resolve_left (by omega), rfl, rfl⟩
  rw [if_neg h4]
  by_cases h8 : n.kd = 8 ∨ n.kd = 9
  · rw [if_pos h8]
    rw [bare_iff]
    constructor
    · rintro ⟨hep, htk, hask, ⟨hsf, hst⟩, hrep, ⟨hls, hla⟩, hae, hsh⟩
      exact ⟨by omega, Or.inr hask, Or.inr hrep, Or.inr (Or.inr htk), Or.inl (by omega), h8.imp_right Or.inl, Or.inr ⟨by omega, hae, hsh⟩⟩
    · intro h
      obtain ⟨-, h_ask, h_rep, h_tk, h_sp, h_li, h_mp⟩ := h
      exact ⟨rfl, (h_tk.resolve_left (by omega)).resolve_left (by omega), h_ask.resolve_left (by omega), ⟨rfl, rfl⟩, h_rep.resolve_left (by omega), ⟨rfl, rfl⟩, (h_mp.resolve_left (fun h => by have := h.1; omega)).2.1, (h_mp.resolve_left (fun h => by have := h.1; omega)).2.2⟩
  rw [if_neg h8]
  by_cases h7 : n.kd = 7 ∨ n.kd = 10 ∨ n.kd = 11 ∨ n.kd = 12
  · rw [if_pos h7]
    rw [bare_iff]
    constructor
    · rintro ⟨hep, htk, hask, ⟨hsf, hst⟩, hrep, ⟨hls, hla⟩, hae, hsh⟩
      exact ⟨by omega, Or.inr hask, Or.inr hrep, Or.inr (Or.inr htk), Or.inl (by omega), Or.inr (Or.inr ⟨hls, hla⟩), Or.inr ⟨by omega, hae, hsh⟩⟩
    · intro h
      obtain ⟨-, h_ask, h_rep, h_tk, h_sp, h_li, h_mp⟩ := h
      exact ⟨rfl, (h_tk.resolve_left (by omega)).resolve_left (by omega), h_ask.resolve_left (by omega), ⟨rfl, rfl⟩, h_rep.resolve_left (by omega), (h_li.resolve_left (by omega)).resolve_left (by omega), (h_mp.resolve_left (fun h => by have := h.1; omega)).2.1, (h_mp.resolve_left (fun h => by have := h.1; omega)).2.2⟩
  rw [if_neg h7]
  exact ⟨fun h => (by cases h), fun h => (by have := h.k; omega)⟩
/-- a note that fits and can be laid may be. -/
theorem may_some {n : NtL} (h1 : partyB n.fr = true) (h2 : partyB n.to_ = true) (h3 : n.fr ≠ n.to_) (h4 : Fit n) (h5 : LayOk n) : (packN n).isSome = true := by
  unfold packN
  rw [if_pos ⟨h1, h2, h3, (fits_iff n).2 h4⟩]
  exact h5.some
theorem may_no {n : NtL} (h : ¬ Fit n) : (packN n).isSome = false := by
  unfold packN
  rw [if_neg (fun hh => h ((fits_iff n).1 hh.2.2.2))]
  rfl
end Go.Proofs.Ytfadpiipigkocaa
namespace Go.Proofs.Ytfadpiipigkocaa
open Go.RowKit Go.Gz

theorem recsS_none : ∀ ls : List RecL, recsS none ls = none
  | [] => rfl
  | x :: ls => by
    show recsS (textsS 32768 none [x.1, x.2]) ls = none
    rw [textsS_none]
    exact recsS_none ls
theorem repS_num {r : RepL} (h : (repS r).isSome = true) : (0 ≤ r.c ∧ r.c ≤ 268435455) ∧ 0 ≤ r.s ∧ r.s ≤ 268435455 := by
  have key : ∀ k, k < 2 → 0 ≤ [r.c, r.s, r.e].getD k 0 ∧ [r.c, r.s, r.e].getD k 0 ≤ 268435455 := fun k hk => by
    rcases Classical.em (0 ≤ [r.c, r.s, r.e].getD k 0 ∧ [r.c, r.s, r.e].getD k 0 ≤ 268435455) with h1 | h1
    · exact h1
    · have := numsS_bad 32768 (some []) [r.c, r.s, r.e] k (by simp; omega) h1
      unfold repS repS0 at h
      rw [this] at h
      have e1 : truthS 32768 none r.fd = none := rfl
      rw [e1, textsS_none, numsS_none, recsS_none, textsS_none] at h
      cases h
  exact ⟨key 0 (by decide), key 1 (by decide)⟩
theorem szL_mem : ∀ (ls : List RecL) (x : RecL), x ∈ ls → szL x ≤ sumZ szL ls
  | [], _, h => by cases h
  | y :: ls, x, h => by
    have e : sumZ szL (y :: ls) = szL y + sumZ szL ls := rfl
    rcases List.mem_cons.1 h with rfl | h
    · omega
    · have := szL_mem ls x h; omega
theorem szS_mem : ∀ (ls : List SP) (x : SP), x ∈ ls → szS x ≤ sumZ szS ls
  | [], _, h => by cases h
  | y :: ls, x, h => by
    have e : sumZ szS (y :: ls) = szS y + sumZ szS ls := rfl
    rcases List.mem_cons.1 h with rfl | h
    · omega
    · have := szS_mem ls x h; omega
theorem sumZ_leD (L : List Sd) (h : ∀ x ∈ L, RchD x) (m : Nat) (hm : L.length ≤ m) : sumZ szS (L.map Sd.sp) ≤ 281474976702464 * m := by
  induction L generalizing m with
  | nil => exact Nat.zero_le _
  | cons x L ih =>
    rw [List.length_cons] at hm
    obtain ⟨h1, h2⟩ := h x (List.mem_cons_self ..)
    have := ih (fun r hr => h r (List.mem_cons_of_mem _ hr)) (m - 1) (by omega)
    have e : 281474976702464 * m = 281474976702464 * (m - 1) + 281474976702464 := by omega
    show szS x.sp + sumZ szS (L.map Sd.sp) ≤ _
    unfold szS at this ⊢
    omega
theorem party_num {n : Int} (h : partyB n = true) : 0 ≤ n ∧ n ≤ 268435455 := by
  unfold partyB at h
  rw [decide_eq_true_eq] at h
  omega
/-- what is asked of a note that may be. -/
structure MayF (n : NtL) : Prop where
  fr : partyB n.fr = true
  to_ : partyB n.to_ = true
  ne : n.fr ≠ n.to_
  ep : 0 ≤ n.ep ∧ n.ep < 268435456
  tk : 0 ≤ n.tk ∧ n.tk < 268435456
  fit : Fit n
  ask : (askS n.ask).isSome = true
  rep : (repS n.rep).isSome = true
  la : ∀ e ∈ n.la, (repS e.r).isSome = true
  ae : n.kd = 4 ∨ n.kd = 6 → n.ae < 268435456
theorem may_lay {n : NtL} (h : MayF n) (hl : NtLit n) (hr : NtRch n) (hf : NtFew n) (hs : ∀ e ∈ n.la, e.s = e.r.s) : LayOk n := by
  have ht := txt_small hl hr hf
  unfold txtN at ht
  simp only [strB_size] at ht
  have hk := h.fit.k
  have hls : ∀ x ∈ n.ls, x.1.length ≤ 268435455 ∧ x.2.length ≤ 268435455 := fun x hx => by
    have := szL_mem n.ls x hx
    unfold szL at this ht
    omega
  have hae : (0 ≤ n.ae ∧ n.ae ≤ 268435455) ∧ ∀ x ∈ n.sh, (x.sp.f.size ≤ 268435455 ∧ x.sp.t.size ≤ 268435455) ∧ (0 ≤ x.n ∧ x.n ≤ 268435455) ∧ 0 ≤ x.e ∧ x.e ≤ 268435455 := by
    rcases h.fit.mp with ⟨h46, hm⟩ | ⟨_, h0, h1⟩
    · have M := (mayAB_iff 5 n.ae n.sh).1 hm
      have hlt := h.ae h46
      have h1 := M.ep1
      refine ⟨by omega, fun x hx => ?_⟩
      have hx2 := M.sh x hx
      obtain ⟨q1, q2, q3, q4⟩ := hx2
      have hw := wrap_small hl.spn (by have := sumZ_leD n.sh hr.sh 60 hf.hl; omega)
      have := szS_mem (n.sh.map Sd.sp) x.sp (List.mem_map.2 ⟨x, hx, rfl⟩)
      unfold szS at this hw
      exact ⟨⟨by omega, by omega⟩, ⟨by omega, by omega⟩, by omega, by omega⟩
    · rw [h0, h1]
      exact ⟨by decide, fun x hx => by cases hx⟩
  exact ⟨by omega, party_num h.fr, party_num h.to_, by have := h.ep; omega, by have := h.tk; omega, h.ask, h.rep, by omega, by omega, by have := hf.ll; omega, hls, by have := hf.al; omega, fun e he => ⟨by rw [hs e he]; exact (repS_num (h.la e he)).2, h.la e he⟩, hae.1, by have := hf.hl; omega, hae.2, (few_sm hf).size⟩
end Go.Proofs.Ytfadpiipigkocaa
