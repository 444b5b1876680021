/-
  Several texts in one: NtEnc, NtBd.
-/
import Derived.Test.YtfadpiipigkocaaNtTake
namespace Go.Proofs.Ytfadpiipigkocaa
open Go.RowKit Go.Gz

theorem fold_some {α β γ : Type} (C : Codec β) (g : α → γ) (h : β → γ) (f : Option (List UInt8) → α → Option (List UInt8))
    (hf : ∀ st x b, f st x = some b → ∃ b0 y, st = some b0 ∧ g x = h y ∧ C.ok y ∧ b = b0 ++ C.enc y) : ∀ (xs : List α) (st : Option (List UInt8)) (b : List UInt8), xs.foldl f st = some b →
    ∃ b0 ys, st = some b0 ∧ xs.map g = ys.map h ∧ (∀ y ∈ ys, C.ok y) ∧ b = b0 ++ encR C ys ∧ ys.length = xs.length
  | [], st, b, hb => ⟨b, [], hb, rfl, (fun y hy => by cases hy), (List.append_nil b).symm, rfl⟩
  | x :: xs, st, b, hb => by
    obtain ⟨b1, ys, h1, h2, h3, h4, h5⟩ := fold_some C g h f hf xs (f st x) b hb
    obtain ⟨b0, y, h6, h7, h8, h9⟩ := hf st x b1 h1
    refine ⟨b0, y :: ys, h6, by rw [List.map_cons, List.map_cons, h2, h7], fun z hz => ?_, ?_, by rw [List.length_cons, List.length_cons, h5]⟩
    · rcases List.mem_cons.1 hz with rfl | hz
      · exact h8
      · exact h3 z hz
    · rw [h4, h9]
      show _ = b0 ++ (C.enc y ++ encR C ys)
      rw [List.append_assoc]
theorem items_some {α β γ : Type} (C : Codec β) (g : α → γ) (h : β → γ) (f : Option (List UInt8) → α → Option (List UInt8))
    (hf : ∀ st x b, f st x = some b → ∃ b0 y, st = some b0 ∧ g x = h y ∧ C.ok y ∧ b = b0 ++ C.enc y) {xs : List α} {st : Option (List UInt8)} {b : List UInt8} (hb : itemsS MX f st xs = some b) :
    ∃ b0 ys, st = some b0 ∧ xs.map g = ys.map h ∧ (Codec.list C).ok ys ∧ b = b0 ++ (Codec.list C).enc ys := by
  obtain ⟨b1, ys, h1, h2, h3, h4, h5⟩ := fold_some C g h f hf xs _ b hb
  have h1 : numS MX st (xs.length : Int) = some b1 := h1
  obtain ⟨b0, h6, h7, h8, _⟩ := numS_some h1
  refine ⟨b0, ys, h6, h2, ⟨by rw [h5]; omega, h3⟩, ?_⟩
  rw [h4, h8]
  show _ = b0 ++ (be4 ys.length ++ encR C ys)
  rw [h5, List.append_assoc, Int.toNat_natCast]; rfl
theorem recF_some (st : Option (List UInt8)) (x : RecL) (b : List UInt8) (h : recF MX st x = some b) : ∃ b0 y, st = some b0 ∧ x = y ∧ recC.ok y ∧ b = b0 ++ recC.enc y := by
  have h : textS MX (textS MX st x.1) x.2 = some b := h
  obtain ⟨b1, h1, h2, h3, _⟩ := textS_some h
  obtain ⟨b0, h4, h5, h6, _⟩ := textS_some h1
  refine ⟨b0, x, h4, rfl, ⟨h5, h2⟩, ?_⟩
  rw [h3, h6]
  show _ = b0 ++ (textC.enc x.1 ++ textC.enc x.2)
  rw [List.append_assoc]
theorem partS_some {st S : Option (List UInt8)} {b : List UInt8} (h : partS MX st S = some b) : ∃ b0 t, st = some b0 ∧ S = some t ∧ textC.ok t ∧ b = b0 ++ textC.enc t := by
  cases S with
  | none => cases h
  | some t =>
    obtain ⟨b0, h1, h2, h3, _⟩ := textS_some (show textS MX st t = some b from h)
    exact ⟨b0, t, h1, rfl, h2, h3⟩
theorem lastS_some (st : Option (List UInt8)) (e : Ent) (b : List UInt8) (h : lastS MX st e = some b) : ∃ b0 y, st = some b0 ∧ e.sem = laOf y ∧ laC.ok y ∧ b = b0 ++ laC.enc y := by
  obtain ⟨b1, t, h1, h2, h3, h4⟩ := partS_some h
  obtain ⟨b0, h5, h6, h7, _⟩ := numS_some (show numS MX st e.s = some b1 from h1)
  obtain ⟨o1, o2, o3, o4⟩ := rep_packed h2
  have h3 : t.length < 268435456 := h3
  refine ⟨b0, (e.s.toNat, repU e.r), h5, ?_, ⟨show e.s.toNat < 268435456 by omega, o1, by rw [← o2]; exact o3, by rw [← o2]; exact h3⟩, ?_⟩
  · show (e.s, e.r) = ((e.s.toNat : Int), repT (repU e.r))
    rw [o4, Int.toNat_of_nonneg h6.1]
  · rw [h4, h7, o2]
    show _ = b0 ++ (numC.enc e.s.toNat ++ encT (replyC.enc (repU e.r)))
    rw [List.append_assoc]; rfl
theorem shardS_some (st : Option (List UInt8)) (x : Sd) (b : List UInt8) (h : shardS MX st x = some b) : ∃ b0 y, st = some b0 ∧ x = sdOf y ∧ shC.ok y ∧ b = b0 ++ shC.enc y := by
  have h : numS MX (numS MX (textS MX (textS MX st x.sp.f.data.toList) x.sp.t.data.toList) x.n) x.e = some b := h
  obtain ⟨b4, h4, o4, e4, _⟩ := numS_some h
  obtain ⟨b3, h3, o3, e3, _⟩ := numS_some h4
  obtain ⟨b2, h2, o2, e2, _⟩ := textS_some h3
  obtain ⟨b1, h1, o1, e1, _⟩ := textS_some h2
  refine ⟨b1, ((x.sp.f.data.toList, x.sp.t.data.toList), x.n.toNat, x.e.toNat), h1, ?_, ⟨⟨o1, o2⟩, show x.n.toNat < 268435456 by omega, show x.e.toNat < 268435456 by omega⟩, ?_⟩
  · obtain ⟨⟨f, t⟩, n, e⟩ := x
    show _ = (⟨⟨strB f.data.toList, strB t.data.toList⟩, (n.toNat : Int), (e.toNat : Int)⟩ : Sd)
    rw [strB_of, strB_of, Int.toNat_of_nonneg o3.1, Int.toNat_of_nonneg o4.1]
  · rw [e4, e3, e2, e1]
    show _ = b1 ++ ((textC.enc _ ++ textC.enc _) ++ (numC.enc _ ++ numC.enc _))
    simp only [List.append_assoc]

/-- what is laid is what the codec writes. -/
theorem lay_packed {n : NtL} {Y : List UInt8} (h : layN n = some Y) : ∃ x, noteC.ok x ∧ Y = noteC.enc x ∧ NtOf n x := by
  obtain ⟨b7, xsh, h7, m8, o8, e8⟩ := items_some shC (fun x => x) sdOf (shardS MX) (fun st x b hb => shardS_some st x b hb) (show itemsS MX (shardS MX) (lay7 n) n.sh = some Y from h)
  obtain ⟨b6, h6, o7, e7, _⟩ := numS_some (show numS MX (lay6 n) n.ae = some b7 from h7)
  obtain ⟨b5, xla, h5, m6, o6, e6⟩ := items_some laC Ent.sem laOf (lastS MX) (fun st x b hb => lastS_some st x b hb) (show itemsS MX (lastS MX) (lay5 n) n.la = some b6 from h6)
  obtain ⟨b4, xls, h4, m5, o5, e5⟩ := items_some recC (fun x => x) (fun x => x) (recF MX) (fun st x b hb => recF_some st x b hb) (show itemsS MX (recF MX) (lay4 n) n.ls = some b5 from h5)
  have h4 : textS MX (textS MX (lay3 n) n.sf) n.st = some b4 := h4
  obtain ⟨b3', h3', o4', e4', _⟩ := textS_some h4
  obtain ⟨b3, h3, o4, e4, _⟩ := textS_some h3'
  obtain ⟨b2, tr, h2, hr, or_, e3⟩ := partS_some (show partS MX (lay2 n) (repS n.rep) = some b3 from h3)
  obtain ⟨b1, ta, h1, ha, oa, e2⟩ := partS_some (show partS MX (lay1 n) (askS n.ask) = some b2 from h2)
  have h1 : numS MX (numS MX (numS MX (numS MX (numS MX (some []) n.kd) n.fr) n.to_) n.ep) n.tk = some b1 := h1
  obtain ⟨c4, g4, p4, f4, _⟩ := numS_some h1
  obtain ⟨c3, g3, p3, f3, _⟩ := numS_some g4
  obtain ⟨c2, g2, p2, f2, _⟩ := numS_some g3
  obtain ⟨c1, g1, p1, f1, _⟩ := numS_some g2
  obtain ⟨c0, g0, p0, f0, _⟩ := numS_some g1
  injection g0 with g0
  subst g0
  obtain ⟨ra1, ra2, ra3, ra4⟩ := rep_packed hr
  obtain ⟨aa1, aa2, aa3, aa4⟩ := ask_packed ha
  have oa : ta.length < 268435456 := oa
  have or_ : tr.length < 268435456 := or_
  rw [List.map_id'] at m8
  rw [List.map_id', List.map_id'] at m5
  refine ⟨(n.kd.toNat, n.fr.toNat, n.to_.toNat, n.ep.toNat, n.tk.toNat, askU n.ask, repU n.rep, (n.sf, n.st), xls, xla, n.ae.toNat, xsh), ?_, ?_, ?_⟩
  · exact ⟨show n.kd.toNat < 268435456 by omega, show n.fr.toNat < 268435456 by omega, show n.to_.toNat < 268435456 by omega, show n.ep.toNat < 268435456 by omega, show n.tk.toNat < 268435456 by omega,
      ⟨aa1, by rw [← aa2]; exact aa3, by rw [← aa2]; exact oa⟩, ⟨ra1, by rw [← ra2]; exact ra3, by rw [← ra2]; exact or_⟩, ⟨o4, o4'⟩, o5, o6, show n.ae.toNat < 268435456 by omega, o8⟩
  · rw [e8, e7, e6, e5, e4', e4, e3, e2, f4, f3, f2, f1, f0, aa2, ra2]
    show _ = numC.enc _ ++ (numC.enc _ ++ (numC.enc _ ++ (numC.enc _ ++ (numC.enc _ ++ (textC.enc (askC.enc _) ++ (textC.enc (replyC.enc _) ++ ((textC.enc _ ++ textC.enc _) ++ ((Codec.list recC).enc _ ++ ((Codec.list laC).enc _ ++ (numC.enc _ ++ (Codec.list shC).enc _))))))))))
    simp only [List.append_assoc, List.nil_append]
  · exact ⟨(Int.toNat_of_nonneg p0.1).symm, (Int.toNat_of_nonneg p1.1).symm, (Int.toNat_of_nonneg p2.1).symm, (Int.toNat_of_nonneg p3.1).symm, (Int.toNat_of_nonneg p4.1).symm, aa4.symm, ra4.symm, rfl, m5, m6, (Int.toNat_of_nonneg o7.1).symm, m8⟩

/-- what a note says, but for where its lists lie. -/
structure NtSame (a b : NtL) : Prop where
  kd : a.kd = b.kd
  fr : a.fr = b.fr
  to_ : a.to_ = b.to_
  ep : a.ep = b.ep
  tk : a.tk = b.tk
  ask : a.ask = b.ask
  rep : a.rep = b.rep
  sf : a.sf = b.sf
  st : a.st = b.st
  ls : a.ls = b.ls
  la : a.la.map Ent.sem = b.la.map Ent.sem
  ae : a.ae = b.ae
  sh : a.sh = b.sh
theorem map_inj {α β : Type} {f : α → β} (hf : ∀ x y, f x = f y → x = y) : ∀ {a b : List α}, a.map f = b.map f → a = b
  | [], [], _ => rfl
  | [], _ :: _, h => by cases h
  | _ :: _, [], h => by cases h
  | x :: a, y :: b, h => by
    simp only [List.map_cons, List.cons.injEq] at h
    rw [hf x y h.1, map_inj hf h.2]
theorem askT_inj {x y : AskT} (h : askT x = askT y) : x = y := by
  obtain ⟨x0, x1, x2, x3, x4, x5, x6, x7⟩ := x
  obtain ⟨y0, y1, y2, y3, y4, y5, y6, y7⟩ := y
  simp only [askT, AskL.mk.injEq] at h
  obtain ⟨h0, h1, h2, h4, h5, h6, h7, h3⟩ := h
  simp only [Prod.mk.injEq]
  exact ⟨by omega, by omega, by omega, by omega, h4, h5, h6, h7⟩
theorem repT_inj {x y : RepT} (h : repT x = repT y) : x = y := by
  obtain ⟨x0, x1, x2, x3, x4, x5, x6, x7⟩ := x
  obtain ⟨y0, y1, y2, y3, y4, y5, y6, y7⟩ := y
  simp only [repT, RepL.mk.injEq] at h
  obtain ⟨h0, h1, h2, h3, h4, h5, h6, h7⟩ := h
  simp only [Prod.mk.injEq]
  exact ⟨by omega, by omega, by omega, h3, h4, h5, h6, h7⟩
theorem laOf_inj (x y : LaT) (h : laOf x = laOf y) : x = y := by
  obtain ⟨x0, x1⟩ := x
  obtain ⟨y0, y1⟩ := y
  simp only [laOf, Prod.mk.injEq] at h
  rw [repT_inj h.2, show x0 = y0 by omega]
theorem sdOf_inj (x y : ShT) (h : sdOf x = sdOf y) : x = y := by
  obtain ⟨⟨x0, x1⟩, x2, x3⟩ := x
  obtain ⟨⟨y0, y1⟩, y2, y3⟩ := y
  simp only [sdOf, Sd.mk.injEq, SP.mk.injEq] at h
  obtain ⟨⟨h0, h1⟩, h2, h3⟩ := h
  rw [strB_inj h0, strB_inj h1, show x2 = y2 by omega, show x3 = y3 by omega]
/-- notes that say the same are read off the same parts. -/
theorem nt_of_inj {a b : NtL} {x y : NtT} (ha : NtOf a x) (hb : NtOf b y) : x = y ↔ NtSame a b := by
  constructor
  · intro h
    subst h
    have hs := ha.sp.trans hb.sp.symm
    injection hs with h1 h2
    exact ⟨ha.kd.trans hb.kd.symm, ha.fr.trans hb.fr.symm, ha.to_.trans hb.to_.symm, ha.ep.trans hb.ep.symm, ha.tk.trans hb.tk.symm, ha.ask.trans hb.ask.symm, ha.rep.trans hb.rep.symm, h1, h2, ha.ls.trans hb.ls.symm, ha.la.trans hb.la.symm, ha.ae.trans hb.ae.symm, ha.sh.trans hb.sh.symm⟩
  · intro h
    obtain ⟨x0, x1, x2, x3, x4, x5, x6, x7, x8, x9, x10, x11⟩ := x
    obtain ⟨y0, y1, y2, y3, y4, y5, y6, y7, y8, y9, y10, y11⟩ := y
    have g0 : (x0 : Int) = y0 := ha.kd.symm.trans (h.kd.trans hb.kd)
    have g1 : (x1 : Int) = y1 := ha.fr.symm.trans (h.fr.trans hb.fr)
    have g2 : (x2 : Int) = y2 := ha.to_.symm.trans (h.to_.trans hb.to_)
    have g3 : (x3 : Int) = y3 := ha.ep.symm.trans (h.ep.trans hb.ep)
    have g4 : (x4 : Int) = y4 := ha.tk.symm.trans (h.tk.trans hb.tk)
    have g5 : x5 = y5 := askT_inj (ha.ask.symm.trans (h.ask.trans hb.ask))
    have g6 : x6 = y6 := repT_inj (ha.rep.symm.trans (h.rep.trans hb.rep))
    have g7 : x7 = y7 := ha.sp.symm.trans ((by rw [h.sf, h.st] : (a.sf, a.st) = (b.sf, b.st)).trans hb.sp)
    have g8 : x8 = y8 := ha.ls.symm.trans (h.ls.trans hb.ls)
    have g9 : x9 = y9 := map_inj laOf_inj (ha.la.symm.trans (h.la.trans hb.la))
    have g10 : (x10 : Int) = y10 := ha.ae.symm.trans (h.ae.trans hb.ae)
    have g11 : x11 = y11 := map_inj sdOf_inj (ha.sh.symm.trans (h.sh.trans hb.sh))
    rw [show x0 = y0 by omega, show x1 = y1 by omega, show x2 = y2 by omega, show x3 = y3 by omega, show x4 = y4 by omega, g5, g6, g7, g8, g9, show x10 = y10 by omega, g11]
theorem can_rec : Can recC := can_pair can_text can_text
theorem can_la : Can laC := can_pair can_num (can_part 32768 can_reply)
theorem can_sh : Can shC := can_pair can_rec (can_pair can_num can_num)
theorem can_note : Can noteC := can_pair can_num (can_pair can_num (can_pair can_num (can_pair can_num (can_pair can_num (can_pair (can_part 32768 can_ask) (can_pair (can_part 32768 can_reply) (can_pair can_rec (can_pair (can_list can_rec) (can_pair (can_list can_la) (can_pair can_num (can_list can_sh)))))))))))
theorem noz_note : NoZ noteC := noz_pair noz_num (noz_pair noz_num (noz_pair noz_num (noz_pair noz_num (noz_pair noz_num (noz_pair (noz_part 32768 noz_ask) (noz_pair (noz_part 32768 noz_reply) (noz_pair (noz_pair noz_text noz_text) (noz_pair (noz_list (noz_pair noz_text noz_text)) (noz_pair (noz_list (noz_pair noz_num (noz_part 32768 noz_reply))) (noz_pair noz_num (noz_list (noz_pair (noz_pair noz_text noz_text) (noz_pair noz_num noz_num)))))))))))))
/-- what is read packs to the same bytes. -/
theorem read_pack {l Y : List UInt8} {n : NtL} {x : NtT} (hr : readL noteC l = .ok x) (hn : NtOf n x) (hY : layN n = some Y) : Y = l := by
  obtain ⟨h1, _⟩ := read_can can_note hr
  obtain ⟨y, _, h2, h3⟩ := lay_packed hY
  have : x = y := (nt_of_inj hn h3).2 ⟨rfl, rfl, rfl, rfl, rfl, rfl, rfl, rfl, rfl, rfl, rfl, rfl, rfl⟩
  rw [h1, h2, this]
/-- unlike notes have unlike bytes. -/
theorem pack_same {a b : NtL} {p q : List UInt8} (ha : layN a = some p) (hb : layN b = some q) : p = q ↔ NtSame a b := by
  obtain ⟨x, h1, h2, h3⟩ := lay_packed ha
  obtain ⟨y, h4, h5, h6⟩ := lay_packed hb
  rw [← nt_of_inj h3 h6]
  constructor
  · intro e; exact noteC.inj h1 h4 (by rw [← h2, ← h5, e])
  · intro e; rw [h2, h5, e]
end Go.Proofs.Ytfadpiipigkocaa
namespace Go.Proofs.Ytfadpiipigkocaa
open Go.RowKit Go.Gz

theorem encR_ge {α : Type} (C : Codec α) (c : Nat) (h : ∀ x, c ≤ (C.enc x).length) : ∀ xs : List α, c * xs.length ≤ (encR C xs).length
  | [] => by simp [encR]
  | x :: xs => by
    have h1 := encR_ge C c h xs
    have h2 := h x
    show c * (xs.length + 1) ≤ (C.enc x ++ encR C xs).length
    rw [List.length_append, Nat.mul_add]; omega
theorem encR_sum {α β : Type} (C : Codec α) (g : α → β) (sz : β → Nat) (h : ∀ x, sz (g x) ≤ (C.enc x).length) : ∀ xs : List α, sumZ sz (xs.map g) ≤ (encR C xs).length
  | [] => by simp [encR, sumZ]
  | x :: xs => by
    have h1 := encR_sum C g sz h xs
    have h2 := h x
    show sz (g x) + sumZ sz (xs.map g) ≤ (C.enc x ++ encR C xs).length
    rw [List.length_append]; omega
theorem sumZ_le {α : Type} (sz : α → Nat) (c : Nat) (h : ∀ x, sz x ≤ c) : ∀ xs : List α, sumZ sz xs ≤ c * xs.length
  | [] => by simp [sumZ]
  | x :: xs => by
    have h1 := sumZ_le sz c h xs
    have h2 := h x
    show sz x + sumZ sz xs ≤ c * (xs.length + 1)
    rw [Nat.mul_add]; omega
theorem text_enc_len (l : List UInt8) : (textC.enc l).length = 4 + l.length := by
  show (be4 l.length ++ l).length = _
  rw [List.length_append]; rfl
theorem num_enc_len (n : Nat) : (numC.enc n).length = 4 := rfl
theorem rec_enc_len (x : RecL) : (recC.enc x).length = 8 + x.1.length + x.2.length := by
  show (textC.enc x.1 ++ textC.enc x.2).length = _
  rw [List.length_append, text_enc_len, text_enc_len]; omega
theorem list_enc_len {α : Type} (C : Codec α) (xs : List α) : ((Codec.list C).enc xs).length = 4 + (encR C xs).length := by
  show (be4 xs.length ++ encR C xs).length = _
  rw [List.length_append]; rfl
theorem szR_le (x : RecL) : szR x ≤ (recC.enc x).length := by
  rw [rec_enc_len]
  have := sizeU_le [x.1, x.2]
  have e : sizeT [x.1, x.2] = 4 + x.1.length + (4 + x.2.length + 0) := rfl
  unfold szR; omega
theorem szH_le (x : ShT) : szH (sdOf x) ≤ (shC.enc x).length := by
  have e : (shC.enc x).length = (recC.enc x.1).length + 8 := by
    show (recC.enc x.1 ++ (numC.enc x.2.1 ++ numC.enc x.2.2)).length = _
    rw [List.length_append, List.length_append, num_enc_len, num_enc_len]
  rw [e, rec_enc_len]
  have h := sizeU_le [(sdOf x).sp.f.data.toList, (sdOf x).sp.t.data.toList]
  have e1 : sizeT [(sdOf x).sp.f.data.toList, (sdOf x).sp.t.data.toList] = 4 + x.1.1.length + (4 + x.1.2.length + 0) := rfl
  unfold szH; omega
theorem la_enc_ge (x : LaT) : 8 ≤ (laC.enc x).length := by
  show 8 ≤ (numC.enc x.1 ++ textC.enc (replyC.enc x.2)).length
  rw [List.length_append, num_enc_len, text_enc_len]; omega
theorem sh_enc_ge (x : ShT) : 1 ≤ (shC.enc x).length := by
  show 1 ≤ (recC.enc x.1 ++ (numC.enc x.2.1 ++ numC.enc x.2.2)).length
  rw [List.length_append, rec_enc_len]; omega
theorem rec_enc_ge (x : RecL) : 1 ≤ (recC.enc x).length := by rw [rec_enc_len]; omega
theorem reply_enc_ge (x : RepT) : x.2.2.2.2.2.1.length ≤ (replyC.enc x).length := by
  have h := encR_ge recC 1 rec_enc_ge x.2.2.2.2.2.1
  have e : (replyC.enc x).length = (numC.enc x.1 ++ (numC.enc x.2.1 ++ (numC.enc x.2.2.1 ++ (truthC.enc x.2.2.2.1 ++ (textC.enc x.2.2.2.2.1 ++ ((Codec.list recC).enc x.2.2.2.2.2.1 ++ (textC.enc x.2.2.2.2.2.2.1 ++ truthC.enc x.2.2.2.2.2.2.2))))))).length := rfl
  rw [e]
  simp only [List.length_append, list_enc_len]
  omega
theorem nt_enc_len (x : NtT) : (recC.enc x.2.2.2.2.2.2.2.1).length + (encR recC x.2.2.2.2.2.2.2.2.1).length + (encR laC x.2.2.2.2.2.2.2.2.2.1).length + (encR shC x.2.2.2.2.2.2.2.2.2.2.2).length ≤ (noteC.enc x).length := by
  have e : (noteC.enc x).length = (numC.enc x.1 ++ (numC.enc x.2.1 ++ (numC.enc x.2.2.1 ++ (numC.enc x.2.2.2.1 ++ (numC.enc x.2.2.2.2.1 ++ ((askC.part 32768).enc x.2.2.2.2.2.1 ++ ((replyC.part 32768).enc x.2.2.2.2.2.2.1 ++ (recC.enc x.2.2.2.2.2.2.2.1 ++ ((Codec.list recC).enc x.2.2.2.2.2.2.2.2.1 ++ ((Codec.list laC).enc x.2.2.2.2.2.2.2.2.2.1 ++ (numC.enc x.2.2.2.2.2.2.2.2.2.2.1 ++ (Codec.list shC).enc x.2.2.2.2.2.2.2.2.2.2.2))))))))))).length := rfl
  rw [e]
  simp only [List.length_append, list_enc_len]
  omega
theorem nt_small {l : List UInt8} {n : NtL} {x : NtT} (hr : readL noteC l = .ok x) (hn : NtOf n x) (hl : l.length ≤ 1000000) : NtSm n ∧ n.rep.ls.length ≤ 32768 ∧ n.ls.length ≤ l.length ∧ 8 * n.la.length ≤ l.length ∧ n.sh.length ≤ l.length ∧ (∀ e ∈ n.la, e.r.ls.length ≤ 32768) := by
  obtain ⟨h1, h2⟩ := read_can can_note hr
  have hlen := nt_enc_len x
  rw [← h1] at hlen
  obtain ⟨-, -, -, -, -, -, hrep, -, -, hla, -, -⟩ := h2
  obtain ⟨hrp1, hrp2, -⟩ := hrep
  have hla2 := hla.2
  have r1 : n.rep.ls.length ≤ 32768 := by
    rw [hn.rep]
    have := reply_enc_ge x.2.2.2.2.2.2.1
    exact Nat.le_trans this hrp2
  have r2 : n.ls.length ≤ l.length := by
    rw [hn.ls]
    have := encR_ge recC 1 rec_enc_ge x.2.2.2.2.2.2.2.2.1
    omega
  have e3 : n.la.length = x.2.2.2.2.2.2.2.2.2.1.length := by
    have := congrArg List.length hn.la
    simpa using this
  have r3 : 8 * n.la.length ≤ l.length := by
    have := encR_ge laC 8 la_enc_ge x.2.2.2.2.2.2.2.2.2.1
    omega
  have r4 : n.sh.length ≤ l.length := by
    rw [hn.sh, List.length_map]
    have := encR_ge shC 1 sh_enc_ge x.2.2.2.2.2.2.2.2.2.2.2
    omega
  have r5 : ∀ e ∈ n.la, e.r.ls.length ≤ 32768 := fun e he => by
    have hm : e.sem ∈ n.la.map Ent.sem := List.mem_map.2 ⟨e, he, rfl⟩
    rw [hn.la] at hm
    obtain ⟨y, hy, hye⟩ := List.mem_map.1 hm
    have h3 := (hla2 y hy).2.2.1
    have h4 := reply_enc_ge y.2
    have h5 : repT y.2 = e.r := congrArg Prod.snd hye
    rw [← h5]
    exact Nat.le_trans h4 h3
  refine ⟨⟨?_, by omega, by omega, by omega, fun e he => by have := r5 e he; omega, by omega⟩, r1, r2, r3, r4, r5⟩
  have s1 : sizeU [n.sf, n.st] ≤ (recC.enc x.2.2.2.2.2.2.2.1).length := by
    have := szR_le (n.sf, n.st)
    rw [hn.sp] at this
    have e : szR x.2.2.2.2.2.2.2.1 = sizeU [n.sf, n.st] := by rw [← hn.sp]; rfl
    omega
  have s2 : sumZ szR n.ls ≤ (encR recC x.2.2.2.2.2.2.2.2.1).length := by
    rw [hn.ls]
    have := encR_sum recC (fun y : RecL => y) szR szR_le x.2.2.2.2.2.2.2.2.1
    simpa using this
  have s3 : sumZ szE n.la ≤ 32776 * n.la.length := sumZ_le szE 32776 (fun e => by have := repS_len e.r; unfold szE; omega) n.la
  have s4 : sumZ szH n.sh ≤ (encR shC x.2.2.2.2.2.2.2.2.2.2.2).length := by
    rw [hn.sh]
    exact encR_sum shC sdOf szH szH_le _
  unfold sizeN
  omega
end Go.Proofs.Ytfadpiipigkocaa
