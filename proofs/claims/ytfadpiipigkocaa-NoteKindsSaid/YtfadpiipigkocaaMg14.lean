/-
  Several texts in one: NtLay1, NtLay, SpFew, AtSmall.
-/
import Derived.Test.YtfadpiipigkocaaMg13
import Derived.Test.YtfadpiipigkocaaMg12
namespace Go.Proofs.Ytfadpiipigkocaa
open Go.RowKit Go.Gz

def lastS (M : Nat) (st : Option (List UInt8)) (e : Ent) : Option (List UInt8) := partS M (numsS M st [e.s]) (repS e.r)
def shardS (M : Nat) (st : Option (List UInt8)) (x : Sd) : Option (List UInt8) := numsS M (textsS M st [x.sp.f.data.toList, x.sp.t.data.toList]) [x.n, x.e]
theorem last_packer : (84 : TypeId) ≠ 5 ∧ (84 : TypeId) ≠ 124 := by decide
theorem shard_packer : (70 : TypeId) ≠ 5 ∧ (70 : TypeId) ≠ 124 := by decide
/-- numbers and texts in fresh blocks, however much room there is. -/
theorem nums1M (w : World) (B g M : Nat) (st : Option (List UInt8)) (x : Int) (hB : B ≤ w.heap.size) (h : PkAt w B g M st) (hM : M ≤ 9223372036854775807) (hr : M ≤ 1000000000000 ∨ (st.getD []).length + 4 ≤ 1000000000000) :
    Calls Try.prog 39 #[.pointer (some ⟨g, 0, none⟩), .slice (some ⟨w.heap.size, 0, none⟩) 1 1] (w.alloc (.cells #[.int .i64 x] 3)) fun e w' => e = .returned (.tuple #[]) ∧ Laid w B g M (numsS M st [x]) w' :=
  (numbers_any (w.alloc (.cells #[.int .i64 x] 3)) B g M w.heap.size st [x] (by simp; omega) ((Laid.refl h).alloc hB _).pk hM (by simpa using hr) (new_block _ _ _) (by simp)).mono fun e w' h' => ⟨h'.1, ((Laid.refl h).alloc hB _).trans h'.2⟩
theorem nums2M (w : World) (B g M : Nat) (st : Option (List UInt8)) (x y : Int) (hB : B ≤ w.heap.size) (h : PkAt w B g M st) (hM : M ≤ 9223372036854775807) (hr : M ≤ 1000000000000 ∨ (st.getD []).length + 8 ≤ 1000000000000) :
    Calls Try.prog 39 #[.pointer (some ⟨g, 0, none⟩), .slice (some ⟨w.heap.size, 0, none⟩) 2 2] (w.alloc (.cells #[.int .i64 x, .int .i64 y] 3)) fun e w' => e = .returned (.tuple #[]) ∧ Laid w B g M (numsS M st [x, y]) w' :=
  (numbers_any (w.alloc (.cells #[.int .i64 x, .int .i64 y] 3)) B g M w.heap.size st [x, y] (by simp; omega) ((Laid.refl h).alloc hB _).pk hM (by simpa using hr) (new_block _ _ _) (by simp)).mono fun e w' h' => ⟨h'.1, ((Laid.refl h).alloc hB _).trans h'.2⟩
theorem nums5M (w : World) (B g M : Nat) (st : Option (List UInt8)) (x y z u v : Int) (hB : B ≤ w.heap.size) (h : PkAt w B g M st) (hM : M ≤ 9223372036854775807) (hr : M ≤ 1000000000000 ∨ (st.getD []).length + 20 ≤ 1000000000000) :
    Calls Try.prog 39 #[.pointer (some ⟨g, 0, none⟩), .slice (some ⟨w.heap.size, 0, none⟩) 5 5] (w.alloc (.cells #[.int .i64 x, .int .i64 y, .int .i64 z, .int .i64 u, .int .i64 v] 3)) fun e w' => e = .returned (.tuple #[]) ∧ Laid w B g M (numsS M st [x, y, z, u, v]) w' :=
  (numbers_any (w.alloc (.cells #[.int .i64 x, .int .i64 y, .int .i64 z, .int .i64 u, .int .i64 v] 3)) B g M w.heap.size st [x, y, z, u, v] (by simp; omega) ((Laid.refl h).alloc hB _).pk hM (by simpa using hr) (new_block _ _ _) (by simp)).mono fun e w' h' => ⟨h'.1, ((Laid.refl h).alloc hB _).trans h'.2⟩
theorem texts2M (w : World) (B g M : Nat) (st : Option (List UInt8)) (x y : List UInt8) (hB : B ≤ w.heap.size) (h : PkAt w B g M st) (hM : M ≤ 9223372036854775807) (hr : M ≤ 1000000000000 ∨ (st.getD []).length + sizeU [x, y] ≤ 1000000000000) :
    Calls Try.prog 43 #[.pointer (some ⟨g, 0, none⟩), .slice (some ⟨w.heap.size, 0, none⟩) 2 2] (w.alloc (.cells #[.string (strB x), .string (strB y)] 9)) fun e w' => e = .returned (.tuple #[]) ∧ Laid w B g M (textsS M st [x, y]) w' :=
  (texts_anyU (w.alloc (.cells #[.string (strB x), .string (strB y)] 9)) B g M w.heap.size st [x, y] (by simp; omega) ((Laid.refl h).alloc hB _).pk hM hr (new_block _ _ _) (by simp)).mono fun e w' h' => ⟨h'.1, ((Laid.refl h).alloc hB _).trans h'.2⟩
theorem Laid.sz {w w' : World} {B g M : Nat} {st : Option (List UInt8)} (h : Laid w B g M st w') (hB : B ≤ w.heap.size) : B ≤ w'.heap.size := Nat.le_trans hB h.fr.size

set_option maxHeartbeats 2000000 in
theorem layLast_any (e : Ent) (w0 w : World) (B g M : Nat) (st : Option (List UInt8)) (hp : Recs w0 e.p e.r.ls) (hl : e.r.ls.length ≤ 1048576) (hb0 : Below w0.heap.size w0 w) (hB0 : w0.heap.size ≤ B) (hB : B ≤ w.heap.size) (h : PkAt w B g M st) (hM : M ≤ 9223372036854775807)
    (hr : M ≤ 1000000000000 ∨ (st.getD []).length + 8 + ((repS e.r).getD []).length ≤ 1000000000000) :
    Calls Try.prog 47 #[.pointer (some ⟨g, 0, none⟩), e.val] w fun e' w' => e' = .returned (.tuple #[]) ∧ Laid w B g M (lastS M st e) w' := by
  have HF := Lib.hid (show ∀ w', Laid w B g M (partS M (numsS M st [e.s]) (repS e.r)) w' → Laid w B g M (lastS M st e) w' from fun _ h => h)
  generalize lastS M st e = R at HF ⊢
  obtain ⟨es, er, ep, ek⟩ := e
  simp only at hp hl hr HF
  have HCR := Lib.hid (fun w1 hb => reply_any er ep ek w1 hl (hp.below hb))
  obtain ⟨Z, hZ⟩ : ∃ Z, repS er = Z := ⟨_, rfl⟩
  rw [hZ] at hr HF HCR
  unfold Ent.val
  unfold repV at HCR
  simp only at HCR ⊢
  generalize er.c = a1 at HCR ⊢
  generalize er.s = a2 at HCR ⊢
  generalize er.e = a3 at HCR ⊢
  generalize er.fd = a4 at HCR ⊢
  generalize strB er.v = a5 at HCR ⊢
  generalize er.ls.length = a6 at HCR ⊢
  generalize strB er.nx = a7 at HCR ⊢
  generalize er.mr = a8 at HCR ⊢
  have HL1 := Lib.hid ((Laid.refl h).alloc hB (.cells #[.int .i64 es, .int .i64 a1, .int .i64 a2, .int .i64 a3, .bool a4, .string a5, .slice ep a6 ek, .string a7, .bool a8] 84))
  have HNB := Lib.hid (new_block w #[.int .i64 es, .int .i64 a1, .int .i64 a2, .int .i64 a3, .bool a4, .string a5, .slice ep a6 ek, .string a7, .bool a8] 84)
  have HC := Lib.hid (nums1M _ B g M st es (by simp; omega) HL1.out.pk hM (by omega))
  have HB0 := Lib.hid (And.intro hb0 hB0)
  have HR := Lib.hid hr
  have HM := Lib.hid hM
  have HB := Lib.hid hB
  rw [World.size_alloc] at HC
  clear hp hl hb0 hB0 hB h hM hr hZ
  go_enter Try.func47, Try.ntmps47
  go_wp2_with fail
  refine HC.out.mono ?_
  rintro e w2 ⟨rfl, hl2⟩
  have HL2 := Lib.hid (HL1.out.trans hl2)
  have hbk := hl2.fr.keep _ _ _ _ HNB.out last_packer.1 last_packer.2
  have c1 := cell_at hbk 1
  have c2 := cell_at hbk 2
  have c3 := cell_at hbk 3
  have c4 := cell_at hbk 4
  have c5 := cell_at hbk 5
  have c6 := cell_at hbk 6
  have c7 := cell_at hbk 7
  have c8 := cell_at hbk 8
  have HC2 := Lib.hid (HCR.out w2 (HB0.out.1.trans (HL2.out.bl.mono HB0.out.2)))
  clear hl2 hbk HC
  go_wp2_with fail
  refine HC2.out.mono ?_
  rintro e w3 ⟨v, rfl, hown, hb3⟩
  obtain ⟨q, d, rfl, -, -, hrow⟩ := own_row hown
  have HL3 := Lib.hid (HL2.out.trans ⟨HL2.out.pk.below hb3, hb3.mono (HL2.out.sz HB.out), Fr.of_below hb3⟩)
  have HC3 := Lib.hid (part_any w3 B g M (numsS M st [es]) Z q d hrow (HL3.out.sz HB.out) HL3.out.pk HM.out (by
    have h1 := numsS_len M [es] st
    rw [List.length_singleton] at h1
    have := HR.out
    omega))
  rw [nums_length]
  generalize errP Z = ez at HC3 ⊢
  generalize (Z.getD []).length = nz at HC3 ⊢
  clear hown hb3 hrow c1 c2 c3 c4 c5 c6 c7 c8
  go_wp2_with fail
  refine HC3.out.mono ?_
  rintro e w4 ⟨rfl, hl4⟩
  have HL4 := Lib.hid (HF.out _ (HL3.out.trans hl4))
  clear hl4
  go_wp2_with fail
  exact bodyPost_end (v := .tuple #[]) (by simp [results, Try.results47]) rfl ⟨rfl, HL4.out⟩

set_option maxHeartbeats 2000000 in
theorem layShard_any (x : Sd) (w : World) (B g M : Nat) (st : Option (List UInt8)) (hB : B ≤ w.heap.size) (h : PkAt w B g M st) (hM : M ≤ 9223372036854775807)
    (hr : M ≤ 1000000000000 ∨ (st.getD []).length + sizeU [x.sp.f.data.toList, x.sp.t.data.toList] + 8 ≤ 1000000000000) :
    Calls Try.prog 49 #[.pointer (some ⟨g, 0, none⟩), valSd x] w fun e' w' => e' = .returned (.tuple #[]) ∧ Laid w B g M (shardS M st x) w' := by
  have HF := Lib.hid (show ∀ w', Laid w B g M (numsS M (textsS M st [x.sp.f.data.toList, x.sp.t.data.toList]) [x.n, x.e]) w' → Laid w B g M (shardS M st x) w' from fun _ h => h)
  generalize shardS M st x = R at HF ⊢
  unfold valSd
  have HL1 := Lib.hid ((Laid.refl h).alloc hB (.cells #[.string x.sp.f, .string x.sp.t, .int .i64 x.n, .int .i64 x.e] 70))
  have HNB := Lib.hid (new_block w #[.string x.sp.f, .string x.sp.t, .int .i64 x.n, .int .i64 x.e] 70)
  have hct := texts2M _ B g M st x.sp.f.data.toList x.sp.t.data.toList (by simp; omega) HL1.out.pk hM (by omega)
  rw [strB_of, strB_of, World.size_alloc] at hct
  have HC := Lib.hid hct
  have HR := Lib.hid hr
  have HM := Lib.hid hM
  have HB := Lib.hid hB
  obtain ⟨S1, hS1⟩ : ∃ S, textsS M st [x.sp.f.data.toList, x.sp.t.data.toList] = S := ⟨_, rfl⟩
  have HSL := Lib.hid (show (S1.getD []).length ≤ (st.getD []).length + sizeU [x.sp.f.data.toList, x.sp.t.data.toList] from hS1 ▸ textsS_lenU M _ st)
  rw [hS1] at HC HF
  generalize sizeU [x.sp.f.data.toList, x.sp.t.data.toList] = sz at HR HSL
  generalize x.sp.f = a1 at HL1 HNB HC ⊢
  generalize x.sp.t = a2 at HL1 HNB HC ⊢
  generalize x.n = a3 at HL1 HNB HC HF ⊢
  generalize x.e = a4 at HL1 HNB HC HF ⊢
  clear hB h hM hr hct hS1
  go_enter Try.func49, Try.ntmps49
  go_wp2_with fail
  refine HC.out.mono ?_
  rintro e w2 ⟨rfl, hl2⟩
  have HL2 := Lib.hid (HL1.out.trans hl2)
  have hbk := hl2.fr.keep _ _ _ _ HNB.out shard_packer.1 shard_packer.2
  have c2 := cell_at hbk 2
  have c3 := cell_at hbk 3
  have HC2 := Lib.hid (nums2M w2 B g M S1 a3 a4 (HL2.out.sz HB.out) HL2.out.pk HM.out (by have := HR.out; have := HSL.out; omega))
  clear hl2 hbk HC
  go_wp2_with fail
  refine HC2.out.mono ?_
  rintro e w3 ⟨rfl, hl3⟩
  have HL3 := Lib.hid (HF.out _ (HL2.out.trans hl3))
  clear hl3
  go_wp2_with fail
  exact bodyPost_end (v := .tuple #[]) (by simp [results, Try.results49]) rfl ⟨rfl, HL3.out⟩
end Go.Proofs.Ytfadpiipigkocaa
namespace Go.Proofs.Ytfadpiipigkocaa
open Go.RowKit Go.Gz

/-- a note, but for where its lists lie. -/
structure NtL where
  kd : Int
  fr : Int
  to_ : Int
  ep : Int
  tk : Int
  ask : AskL
  rep : RepL
  sf : List UInt8
  st : List UInt8
  ls : List RecL
  la : List Ent
  ae : Int
  sh : List Sd
/-- where a note's lists lie. -/
structure NtP where
  rp : Option Addr
  rk : Nat
  lp : Option Addr
  lk : Nat
  ap : Option Addr
  ak : Nat
  hp : Option Addr
  hk : Nat
def ntList (n : NtL) (P : NtP) : List Value := [.int .i64 n.kd, .int .i64 n.fr, .int .i64 n.to_, .int .i64 n.ep, .int .i64 n.tk,
  .int .i64 n.ask.d, .int .i64 n.ask.c, .int .i64 n.ask.s, .string (strB n.ask.t), .string (strB n.ask.v), .string (strB n.ask.f), .string (strB n.ask.u), .int .i64 n.ask.m,
  .int .i64 n.rep.c, .int .i64 n.rep.s, .int .i64 n.rep.e, .bool n.rep.fd, .string (strB n.rep.v), .slice P.rp n.rep.ls.length P.rk, .string (strB n.rep.nx), .bool n.rep.mr,
  .string (strB n.sf), .string (strB n.st), .slice P.lp n.ls.length P.lk, .slice P.ap n.la.length P.ak, .int .i64 n.ae, .slice P.hp n.sh.length P.hk]
def ntV (n : NtL) (P : NtP) : Value := .agg (ntList n P).toArray
/-- a note's lists lie where they should. -/
structure NtIn (w : World) (n : NtL) (P : NtP) : Prop where
  rs : Recs w P.rp n.rep.ls
  ls : Recs w P.lp n.ls
  la : RowE w P.ap n.la
  les : ∀ e ∈ n.la, Recs w e.p e.r.ls
  sh : RowK KS w P.hp n.sh
theorem NtIn.below {w w' : World} {n : NtL} {P : NtP} (h : NtIn w n P) (hb : Below w.heap.size w w') : NtIn w' n P := ⟨h.rs.below hb, h.ls.below hb, h.la.below hb, fun e he => (h.les e he).below hb, h.sh.below hb⟩

def sumZ {α : Type} (sz : α → Nat) (xs : List α) : Nat := xs.foldr (fun x n => sz x + n) 0
theorem sumZ_take {α : Type} (sz : α → Nat) (d : α) : ∀ (xs : List α) (k : Nat), k < xs.length → sumZ sz (xs.take k) + sz (xs.getD k d) ≤ sumZ sz xs
  | [], k, h => by simp at h
  | x :: xs, 0, _ => by
    show 0 + sz x ≤ sz x + sumZ sz xs
    omega
  | x :: xs, k + 1, h => by
    have := sumZ_take sz d xs k (by simpa using h)
    show sz x + sumZ sz (xs.take k) + sz (xs.getD k d) ≤ sz x + sumZ sz xs
    omega
theorem fold_len {α : Type} (f : Option (List UInt8) → α → Option (List UInt8)) (sz : α → Nat) (hf : ∀ st x, ((f st x).getD []).length ≤ (st.getD []).length + sz x) : ∀ (xs : List α) (st : Option (List UInt8)), ((xs.foldl f st).getD []).length ≤ (st.getD []).length + sumZ sz xs
  | [], st => Nat.le_add_right _ _
  | x :: xs, st => by
    have h1 := hf st x
    have h2 := fold_len f sz hf xs (f st x)
    show ((xs.foldl f (f st x)).getD []).length ≤ (st.getD []).length + (sz x + sumZ sz xs)
    omega
def recF (M : Nat) (st : Option (List UInt8)) (r : RecL) : Option (List UInt8) := textsS M st [r.1, r.2]
def szR (x : RecL) : Nat := sizeU [x.1, x.2]
def szE (e : Ent) : Nat := 8 + ((repS e.r).getD []).length
def szH (x : Sd) : Nat := sizeU [x.sp.f.data.toList, x.sp.t.data.toList] + 8
theorem recF_len (M : Nat) (st : Option (List UInt8)) (x : RecL) : ((recF M st x).getD []).length ≤ (st.getD []).length + szR x := textsS_lenU M _ st
theorem lastS_len (M : Nat) (st : Option (List UInt8)) (e : Ent) : ((lastS M st e).getD []).length ≤ (st.getD []).length + szE e := by
  have h1 := numsS_len M [e.s] st
  rw [List.length_singleton] at h1
  have h2 := partS_len M (numsS M st [e.s]) (repS e.r)
  unfold lastS szE
  omega
theorem shardS_len (M : Nat) (st : Option (List UInt8)) (x : Sd) : ((shardS M st x).getD []).length ≤ (st.getD []).length + szH x := by
  have h1 := textsS_lenU M [x.sp.f.data.toList, x.sp.t.data.toList] st
  have h2 := numsS_len M [x.n, x.e] (textsS M st [x.sp.f.data.toList, x.sp.t.data.toList])
  have h3 : [x.n, x.e].length = 2 := rfl
  rw [h3] at h2
  unfold shardS szH
  omega
theorem itemsS_len {α : Type} (M : Nat) (f : Option (List UInt8) → α → Option (List UInt8)) (sz : α → Nat) (hf : ∀ st x, ((f st x).getD []).length ≤ (st.getD []).length + sz x) (xs : List α) (st : Option (List UInt8)) : ((itemsS M f st xs).getD []).length ≤ (st.getD []).length + 4 + sumZ sz xs := by
  have h1 := numsS_len M [(xs.length : Int)] st
  rw [List.length_singleton] at h1
  have h2 := fold_len f sz hf xs (numsS M st [(xs.length : Int)])
  unfold itemsS
  omega
theorem items_room {α : Type} (M : Nat) (f : Option (List UInt8) → α → Option (List UInt8)) (sz : α → Nat) (hf : ∀ st x, ((f st x).getD []).length ≤ (st.getD []).length + sz x) (xs : List α) (d : α) (st : Option (List UInt8)) (k : Nat) (hk : k < xs.length) :
    (((xs.take k).foldl f (numsS M st [(xs.length : Int)])).getD []).length + sz (xs.getD k d) ≤ (st.getD []).length + 4 + sumZ sz xs := by
  have h1 := numsS_len M [(xs.length : Int)] st
  rw [List.length_singleton] at h1
  have h2 := fold_len f sz hf (xs.take k) (numsS M st [(xs.length : Int)])
  have h3 := sumZ_take sz d xs k hk
  omega

abbrev MX : Nat := 9223372036854775807
def lay1 (n : NtL) : Option (List UInt8) := numsS MX (some []) [n.kd, n.fr, n.to_, n.ep, n.tk]
def lay2 (n : NtL) : Option (List UInt8) := partS MX (lay1 n) (askS n.ask)
def lay3 (n : NtL) : Option (List UInt8) := partS MX (lay2 n) (repS n.rep)
def lay4 (n : NtL) : Option (List UInt8) := textsS MX (lay3 n) [n.sf, n.st]
def lay5 (n : NtL) : Option (List UInt8) := itemsS MX (recF MX) (lay4 n) n.ls
def lay6 (n : NtL) : Option (List UInt8) := itemsS MX (lastS MX) (lay5 n) n.la
def lay7 (n : NtL) : Option (List UInt8) := numsS MX (lay6 n) [n.ae]
/-- the bytes of a note's parts; or that one is refused. -/
def layN (n : NtL) : Option (List UInt8) := itemsS MX (shardS MX) (lay7 n) n.sh
def sizeN (n : NtL) : Nat := 70000 + sizeU [n.sf, n.st] + sumZ szR n.ls + sumZ szE n.la + sumZ szH n.sh
structure LayLen (n : NtL) : Prop where
  l1 : ((lay1 n).getD []).length ≤ 20
  l2 : ((lay2 n).getD []).length ≤ 32800
  l3 : ((lay3 n).getD []).length ≤ 65600
  l4 : ((lay4 n).getD []).length ≤ 65600 + sizeU [n.sf, n.st]
  l5 : ((lay5 n).getD []).length ≤ 65604 + sizeU [n.sf, n.st] + sumZ szR n.ls
  l6 : ((lay6 n).getD []).length ≤ 65608 + sizeU [n.sf, n.st] + sumZ szR n.ls + sumZ szE n.la
  l7 : ((lay7 n).getD []).length ≤ 65612 + sizeU [n.sf, n.st] + sumZ szR n.ls + sumZ szE n.la
theorem lay_len (n : NtL) : LayLen n := by
  have h1 := numsS_len MX [n.kd, n.fr, n.to_, n.ep, n.tk] (some [])
  have h1' : (Option.getD (some ([] : List UInt8)) []).length + 4 * [n.kd, n.fr, n.to_, n.ep, n.tk].length = 20 := rfl
  have h2 := partS_len MX (lay1 n) (askS n.ask)
  have h2' := askS_len' n.ask
  have h3 := partS_len MX (lay2 n) (repS n.rep)
  have h3' := repS_len n.rep
  have h4 := textsS_lenU MX [n.sf, n.st] (lay3 n)
  have h5 := itemsS_len MX (recF MX) szR (recF_len MX) n.ls (lay4 n)
  have h6 := itemsS_len MX (lastS MX) szE (lastS_len MX) n.la (lay5 n)
  have h7 := numsS_len MX [n.ae] (lay6 n)
  rw [List.length_singleton] at h7
  have e1 : ((lay1 n).getD []).length ≤ 20 := by unfold lay1; omega
  have e2 : ((lay2 n).getD []).length ≤ 32800 := by unfold lay2; omega
  have e3 : ((lay3 n).getD []).length ≤ 65600 := by unfold lay3; omega
  have e4 : ((lay4 n).getD []).length ≤ 65600 + sizeU [n.sf, n.st] := by unfold lay4; omega
  have e5 : ((lay5 n).getD []).length ≤ 65604 + sizeU [n.sf, n.st] + sumZ szR n.ls := by unfold lay5; omega
  have e6 : ((lay6 n).getD []).length ≤ 65608 + sizeU [n.sf, n.st] + sumZ szR n.ls + sumZ szE n.la := by unfold lay6; omega
  exact ⟨e1, e2, e3, e4, e5, e6, by unfold lay7; omega⟩
/-- a note is small enough to be laid. -/
structure NtSm (n : NtL) : Prop where
  size : sizeN n ≤ 999999999000
  rl : n.rep.ls.length ≤ 1000000
  ll : n.ls.length ≤ 1000000
  al : n.la.length ≤ 1000000
  ael : ∀ e ∈ n.la, e.r.ls.length ≤ 1000000
  hl : n.sh.length ≤ 1000000

set_option maxHeartbeats 8000000 in
set_option maxRecDepth 100000 in
theorem lay_n (n : NtL) (P : NtP) (w : World) (hin : NtIn w n P) (hsm : NtSm n) : Calls Try.prog 24 #[ntV n P] w (RetPk w.heap.size (layN n) w) := by
  have HLL := Lib.hid (lay_len n)
  have HSM := Lib.hid hsm
  have HIN := Lib.hid hin
  have e1 : numsS MX (some []) [n.kd, n.fr, n.to_, n.ep, n.tk] = lay1 n := rfl
  have e2 : partS MX (lay1 n) (askS n.ask) = lay2 n := rfl
  have e3 : partS MX (lay2 n) (repS n.rep) = lay3 n := rfl
  have e4 : textsS MX (lay3 n) [n.sf, n.st] = lay4 n := rfl
  have e5 : itemsS MX (recF MX) (lay4 n) n.ls = lay5 n := rfl
  have e6 : itemsS MX (lastS MX) (lay5 n) n.la = lay6 n := rfl
  have e7 : numsS MX (lay6 n) [n.ae] = lay7 n := rfl
  have e8 : itemsS MX (shardS MX) (lay7 n) n.sh = layN n := rfl
  have E := Lib.hid (And.intro e1 (And.intro e2 (And.intro e3 (And.intro e4 (And.intro e5 (And.intro e6 (And.intro e7 e8)))))))
  have CA := Lib.hid (fun w1 => ask_any n.ask w1)
  have CR := Lib.hid (fun w1 hb => reply_any n.rep P.rp P.rk w1 (Nat.le_trans hsm.rl (by decide)) (hin.rs.below hb))
  have CI5 := Lib.hid (fun w1 (st : Option (List UInt8)) (hb : Below w.heap.size w w1) (h1 : w.heap.size + 1 ≤ w1.heap.size) (hp : PkAt w1 (w.heap.size + 1) (w.heap.size + 1) MX st) (hs : (st.getD []).length + 4 + sumZ szR n.ls ≤ 1000000000000) => itemsRec_any (g := 45) (lb := #[]) (fun _ _ => rfl) (recF MX) w w1 (w.heap.size + 1) (w.heap.size + 1) MX st n.ls P.lp P.lk hin.ls hb (by omega) h1 hp (Nat.le_refl _) (Or.inr (show (st.getD []).length + 4 ≤ 1000000000000 by have : (st.getD []).length + 4 + sumZ szR n.ls ≤ 1000000000000 := hs; omega)) (Nat.le_trans hsm.ll (by decide))
    (fun k hk w2 h2 _ h3 => record_any w2 _ _ MX _ _ _ h2 h3 (Nat.le_refl _) (Or.inr (Nat.le_trans (items_room MX (recF MX) szR (recF_len MX) n.ls ([], []) st k hk) hs))))
  have CI6 := Lib.hid (fun w1 (st : Option (List UInt8)) (hb : Below w.heap.size w w1) (h1 : w.heap.size + 1 ≤ w1.heap.size) (hp : PkAt w1 (w.heap.size + 1) (w.heap.size + 1) MX st) (hs : (st.getD []).length + 4 + sumZ szE n.la ≤ 1000000000000) => itemsLast_any (g := 47) (lb := #[]) (fun _ _ => rfl) (lastS MX) w w1 (w.heap.size + 1) (w.heap.size + 1) MX st n.la P.ap P.ak hin.la hb (by omega) h1 hp (Nat.le_refl _) (Or.inr (show (st.getD []).length + 4 ≤ 1000000000000 by have : (st.getD []).length + 4 + sumZ szE n.la ≤ 1000000000000 := hs; omega)) (Nat.le_trans hsm.al (by decide))
    (fun k hk w2 h2 h4 h3 => layLast_any (n.la.getD k default) w w2 _ _ MX _ (hin.les _ (by simp [List.getD, hk])) (Nat.le_trans (hsm.ael _ (by simp [List.getD, hk])) (by decide)) (hb.trans (h4.mono (by omega))) (by omega) h2 h3 (Nat.le_refl _) (Or.inr (by
      have h5 := items_room MX (lastS MX) szE (lastS_len MX) n.la default st k hk
      have h6 : szE (n.la.getD k default) = 8 + ((repS (n.la.getD k default).r).getD []).length := rfl
      have h7 : (st.getD []).length + 4 + sumZ szE n.la ≤ 1000000000000 := hs
      omega))))
  have CI8 := Lib.hid (fun w1 (st : Option (List UInt8)) (hb : Below w.heap.size w w1) (h1 : w.heap.size + 1 ≤ w1.heap.size) (hp : PkAt w1 (w.heap.size + 1) (w.heap.size + 1) MX st) (hs : (st.getD []).length + 4 + sumZ szH n.sh ≤ 1000000000000) => itemsShard_any (g := 49) (lb := #[]) (fun _ _ => rfl) (shardS MX) w w1 (w.heap.size + 1) (w.heap.size + 1) MX st n.sh P.hp P.hk hin.sh hb (by omega) h1 hp (Nat.le_refl _) (Or.inr (show (st.getD []).length + 4 ≤ 1000000000000 by have : (st.getD []).length + 4 + sumZ szH n.sh ≤ 1000000000000 := hs; omega)) (Nat.le_trans hsm.hl (by decide))
    (fun k hk w2 h2 _ h3 => layShard_any (n.sh.getD k default) w2 _ _ MX _ h2 h3 (Nat.le_refl _) (Or.inr (by
      have h5 := items_room MX (shardS MX) szH (shardS_len MX) n.sh default st k hk
      have h6 : szH (n.sh.getD k default) = sizeU [(n.sh.getD k default).sp.f.data.toList, (n.sh.getD k default).sp.t.data.toList] + 8 := rfl
      have h7 : (st.getD []).length + 4 + sumZ szH n.sh ≤ 1000000000000 := hs
      omega))))
  have CN0 := Lib.hid (fun w1 => pcNew_any w1 MX)
  have CN1 := Lib.hid (fun w1 B st hB h hr => nums5M w1 B B MX st n.kd n.fr n.to_ n.ep n.tk hB h (Nat.le_refl _) (Or.inr hr))
  have CN4 := Lib.hid (fun w1 B st hB h hr => texts2M w1 B B MX st n.sf n.st hB h (Nat.le_refl _) (Or.inr hr))
  have CN7 := Lib.hid (fun w1 B st hB h hr => nums1M w1 B B MX st n.ae hB h (Nat.le_refl _) (Or.inr hr))
  have HSZ := Lib.hid (show 70000 + sizeU [n.sf, n.st] + sumZ szR n.ls + sumZ szE n.la + sumZ szH n.sh ≤ 999999999000 from hsm.size)
  obtain ⟨l1, l2, l3, l4, l5, l6, l7⟩ := HLL.out
  have HL := Lib.hid (And.intro l1 (And.intro l2 (And.intro l3 (And.intro l4 (And.intro l5 (And.intro l6 l7))))))
  unfold ntV ntList
  unfold askV at CA
  unfold repV at CR
  clear HLL HSM HIN hin hsm e1 e2 e3 e4 e5 e6 e7 e8 l1 l2 l3 l4 l5 l6 l7
  generalize lay1 n = S1 at E HL
  generalize lay2 n = S2 at E HL
  generalize lay3 n = S3 at E HL
  generalize lay4 n = S4 at E HL
  generalize lay5 n = S5 at E HL
  generalize lay6 n = S6 at E HL
  generalize lay7 n = S7 at E HL
  generalize layN n = S8 at E ⊢
  obtain ⟨kd, fr, to_, ep, tk, ask, rep, sf, st, ls, la, ae, sh⟩ := n
  obtain ⟨rp, rk, lp, lk, ap, ak, hp, hk⟩ := P
  simp only at CA CR CI5 CI6 CI8 CN1 CN4 CN7 HSZ HL E ⊢
  generalize sizeU [sf, st] = z1 at HSZ HL CN4
  generalize sumZ szR ls = z2 at HSZ HL CI5
  generalize sumZ szE la = z3 at HSZ HL CI6
  generalize sumZ szH sh = z4 at HSZ HL CI8
  obtain ⟨E1, E2, E3, E4, E5, E6, E7, E8⟩ := E.out
  have HE1 := Lib.hid E1
  have HE2 := Lib.hid E2
  have HE3 := Lib.hid E3
  have HE4 := Lib.hid E4
  have HE5 := Lib.hid E5
  have HE6 := Lib.hid E6
  have HE7 := Lib.hid E7
  have HE8 := Lib.hid E8
  obtain ⟨l1, l2, l3, l4, l5, l6, l7⟩ := HL.out
  have HL1 := Lib.hid l1
  have HL2 := Lib.hid l2
  have HL3 := Lib.hid l3
  have HL4 := Lib.hid l4
  have HL5 := Lib.hid l5
  have HL6 := Lib.hid l6
  have HL7 := Lib.hid l7
  clear E HL E1 E2 E3 E4 E5 E6 E7 E8 l1 l2 l3 l4 l5 l6 l7
  have HAL := Lib.hid (askS_len' ask)
  have HRL := Lib.hid (repS_len rep)
  obtain ⟨SA, hSA⟩ : ∃ S, askS ask = S := ⟨_, rfl⟩
  obtain ⟨SR, hSR⟩ : ∃ S, repS rep = S := ⟨_, rfl⟩
  rw [hSA] at HE2 CA HAL
  rw [hSR] at HE3 CR HRL
  clear hSA hSR
  obtain ⟨W0, hW0⟩ : ∃ W0, w.alloc (.cells #[.int .i64 kd, .int .i64 fr, .int .i64 to_, .int .i64 ep, .int .i64 tk, .int .i64 ask.d, .int .i64 ask.c, .int .i64 ask.s, .string (strB ask.t), .string (strB ask.v), .string (strB ask.f), .string (strB ask.u), .int .i64 ask.m, .int .i64 rep.c, .int .i64 rep.s, .int .i64 rep.e, .bool rep.fd, .string (strB rep.v), .slice rp rep.ls.length rk, .string (strB rep.nx), .bool rep.mr, .string (strB sf), .string (strB st), .slice lp ls.length lk, .slice ap la.length ak, .int .i64 ae, .slice hp sh.length hk] 43) = W0 := ⟨_, rfl⟩
  have hz0 : W0.heap.size = w.heap.size + 1 := by rw [← hW0]; simp
  have HC := Lib.hid (show ∀ wr, Below (w.heap.size + 1) W0 wr → ∀ i, wr.cell? ⟨w.heap.size, i, none⟩ = _ from fun wr hb i => box_cells (hW0 ▸ hb) i)
  have HBW := Lib.hid (show Below w.heap.size w W0 by rw [← hW0]; exact (Below.refl _ _).alloc (Nat.le_refl _) _)
  have C0 := Lib.hid (CN0.out W0)
  rw [hz0] at C0
  have HW0 := Lib.hid hW0
  have HZ0 := Lib.hid hz0
  clear hW0 hz0 CN0
  generalize ask.d = v5 at HC HW0 CA ⊢
  generalize ask.c = v6 at HC HW0 CA ⊢
  generalize ask.s = v7 at HC HW0 CA ⊢
  generalize strB ask.t = v8 at HC HW0 CA ⊢
  generalize strB ask.v = v9 at HC HW0 CA ⊢
  generalize strB ask.f = v10 at HC HW0 CA ⊢
  generalize strB ask.u = v11 at HC HW0 CA ⊢
  generalize ask.m = v12 at HC HW0 CA ⊢
  generalize rep.c = v13 at HC HW0 CR ⊢
  generalize rep.s = v14 at HC HW0 CR ⊢
  generalize rep.e = v15 at HC HW0 CR ⊢
  generalize rep.fd = v16 at HC HW0 CR ⊢
  generalize strB rep.v = v17 at HC HW0 CR ⊢
  generalize rep.ls.length = v18 at HC HW0 CR ⊢
  generalize strB rep.nx = v19 at HC HW0 CR ⊢
  generalize rep.mr = v20 at HC HW0 CR ⊢
  generalize strB sf = v21 at HC HW0 CN4 ⊢
  generalize strB st = v22 at HC HW0 CN4 ⊢
  generalize ls.length = v23 at HC HW0 CI5 ⊢
  generalize la.length = v24 at HC HW0 CI6 ⊢
  generalize sh.length = v26 at HC HW0 CI8 ⊢
  go_enter Try.func24, Try.ntmps24
  go_wp2_with fail
  rw [HW0.out]
  refine C0.out.mono ?_
  rintro e w1 ⟨rfl, hp1, hb1⟩
  have HB1 := Lib.hid hb1
  have HP1 := Lib.hid hp1
  have HS1 := Lib.hid (show w.heap.size + 1 ≤ w1.heap.size by have := hb1.size; have := HZ0.out; omega)
  have k0 := HC.out w1 hb1 0
  have k1 := HC.out w1 hb1 1
  have k2 := HC.out w1 hb1 2
  have k3 := HC.out w1 hb1 3
  have k4 := HC.out w1 hb1 4
  have C1 := Lib.hid (CN1.out w1 (w.heap.size + 1) (some []) HS1.out HP1.out (by decide))
  rw [HE1.out] at C1
  clear hp1 hb1
  go_wp2_with fail
  refine C1.out.mono ?_
  rintro e w2 ⟨rfl, hl2⟩
  have HB2 := Lib.hid (HB1.out.trans hl2.bl)
  have HP2 := Lib.hid hl2.pk
  have HS2 := Lib.hid (hl2.sz HS1.out)
  clear hl2 k0 k1 k2 k3 k4
  have k5 := HC.out w2 HB2.out 5
  have k6 := HC.out w2 HB2.out 6
  have k7 := HC.out w2 HB2.out 7
  have k8 := HC.out w2 HB2.out 8
  have k9 := HC.out w2 HB2.out 9
  have k10 := HC.out w2 HB2.out 10
  have k11 := HC.out w2 HB2.out 11
  have k12 := HC.out w2 HB2.out 12
  have C2 := Lib.hid (CA.out w2)
  go_wp2_with fail
  refine C2.out.mono ?_
  rintro e w3 ⟨v, rfl, hown, hb3⟩
  obtain ⟨q, d, rfl, -, -, hrow⟩ := own_row hown
  have HP3 := Lib.hid (HP2.out.below hb3)
  have HS3 := Lib.hid (Nat.le_trans HS2.out hb3.size)
  have HB3 := Lib.hid (HB2.out.trans (hb3.mono HS2.out))
  have C3 := Lib.hid (part_any w3 (w.heap.size + 1) (w.heap.size + 1) MX S1 SA q d hrow HS3.out HP3.out (Nat.le_refl _) (Or.inr (by have := HL1.out; have := HAL.out; omega)))
  rw [HE2.out] at C3
  rw [nums_length]
  generalize errP SA = ez at C3 ⊢
  generalize (SA.getD []).length = nz at C3 ⊢
  clear hown hb3 hrow k5 k6 k7 k8 k9 k10 k11 k12
  go_wp2_with fail
  refine C3.out.mono ?_
  rintro e w4 ⟨rfl, hl4⟩
  have HB4 := Lib.hid (HB3.out.trans hl4.bl)
  have HP4 := Lib.hid hl4.pk
  have HS4 := Lib.hid (hl4.sz HS3.out)
  clear hl4
  have k13 := HC.out w4 HB4.out 13
  have k14 := HC.out w4 HB4.out 14
  have k15 := HC.out w4 HB4.out 15
  have k16 := HC.out w4 HB4.out 16
  have k17 := HC.out w4 HB4.out 17
  have k18 := HC.out w4 HB4.out 18
  have k19 := HC.out w4 HB4.out 19
  have k20 := HC.out w4 HB4.out 20
  have C4 := Lib.hid (CR.out w4 (HBW.out.trans (HB4.out.mono (by omega))))
  go_wp2_with fail
  refine C4.out.mono ?_
  rintro e w5 ⟨v, rfl, hown, hb5⟩
  obtain ⟨q5, d5, rfl, -, -, hrow⟩ := own_row hown
  have HP5 := Lib.hid (HP4.out.below hb5)
  have HS5 := Lib.hid (Nat.le_trans HS4.out hb5.size)
  have HB5 := Lib.hid (HB4.out.trans (hb5.mono HS4.out))
  have C5 := Lib.hid (part_any w5 (w.heap.size + 1) (w.heap.size + 1) MX S2 SR q5 d5 hrow HS5.out HP5.out (Nat.le_refl _) (Or.inr (by have := HL2.out; have := HRL.out; omega)))
  rw [HE3.out] at C5
  rw [nums_length]
  generalize errP SR = ey at C5 ⊢
  generalize (SR.getD []).length = ny at C5 ⊢
  clear hown hb5 hrow k13 k14 k15 k16 k17 k18 k19 k20
  go_wp2_with fail
  refine C5.out.mono ?_
  rintro e w6 ⟨rfl, hl6⟩
  have HB6 := Lib.hid (HB5.out.trans hl6.bl)
  have HP6 := Lib.hid hl6.pk
  have HS6 := Lib.hid (hl6.sz HS5.out)
  clear hl6
  have k21 := HC.out w6 HB6.out 21
  have k22 := HC.out w6 HB6.out 22
  have C6 := Lib.hid (CN4.out w6 (w.heap.size + 1) S3 HS6.out HP6.out (by have := HL3.out; have := HSZ.out; omega))
  rw [HE4.out] at C6
  go_wp2_with fail
  refine C6.out.mono ?_
  rintro e w7 ⟨rfl, hl7⟩
  have HB7 := Lib.hid (HB6.out.trans hl7.bl)
  have HP7 := Lib.hid hl7.pk
  have HS7 := Lib.hid (hl7.sz HS6.out)
  clear hl7 k21 k22
  have k23 := HC.out w7 HB7.out 23
  have C7 := Lib.hid (CI5.out w7 S4 (HBW.out.trans (HB7.out.mono (by omega))) HS7.out HP7.out (by have := HL4.out; have := HSZ.out; omega))
  rw [HE5.out] at C7
  go_wp2_with fail
  refine C7.out.mono ?_
  rintro e w8 ⟨rfl, hl8⟩
  have HB8 := Lib.hid (HB7.out.trans hl8.bl)
  have HP8 := Lib.hid hl8.pk
  have HS8 := Lib.hid (hl8.sz HS7.out)
  clear hl8 k23
  have k24 := HC.out w8 HB8.out 24
  have C8 := Lib.hid (CI6.out w8 S5 (HBW.out.trans (HB8.out.mono (by omega))) HS8.out HP8.out (by have := HL5.out; have := HSZ.out; omega))
  rw [HE6.out] at C8
  go_wp2_with fail
  refine C8.out.mono ?_
  rintro e w9 ⟨rfl, hl9⟩
  have HB9 := Lib.hid (HB8.out.trans hl9.bl)
  have HP9 := Lib.hid hl9.pk
  have HS9 := Lib.hid (hl9.sz HS8.out)
  clear hl9 k24
  have k25 := HC.out w9 HB9.out 25
  have C9 := Lib.hid (CN7.out w9 (w.heap.size + 1) S6 HS9.out HP9.out (by have := HL6.out; have := HSZ.out; omega))
  rw [HE7.out] at C9
  go_wp2_with fail
  refine C9.out.mono ?_
  rintro e w10 ⟨rfl, hl10⟩
  have HB10 := Lib.hid (HB9.out.trans hl10.bl)
  have HP10 := Lib.hid hl10.pk
  have HS10 := Lib.hid (hl10.sz HS9.out)
  clear hl10 k25
  have k26 := HC.out w10 HB10.out 26
  have C10 := Lib.hid (CI8.out w10 S7 (HBW.out.trans (HB10.out.mono (by omega))) HS10.out HP10.out (by have := HL7.out; have := HSZ.out; omega))
  rw [HE8.out] at C10
  go_wp2_with fail
  refine C10.out.mono ?_
  rintro e w11 ⟨rfl, hl11⟩
  have HB11 := Lib.hid (HB10.out.trans hl11.bl)
  have CP := Lib.hid (packed_any w11 (w.heap.size + 1) (w.heap.size + 1) MX S8 hl11.pk)
  clear hl11 k26
  go_wp2_with fail
  refine CP.out.mono ?_
  intro e w12 h12
  have HR := Lib.hid (h12.of (B' := w.heap.size) (w0 := w) (by omega) (HBW.out.trans (HB11.out.mono (by omega))))
  obtain ⟨v12, he12, -, -⟩ := h12
  subst he12
  go_wp2_with fail
  go_ret2
  exact HR.out
end Go.Proofs.Ytfadpiipigkocaa
namespace Go.Proofs.Ytfadpiipigkocaa
open Go.RowKit Go.Gz

def FewP (ls : List SP) (w : World) (e : Ending) (w' : World) : Prop := ∃ b : Bool, e = .returned (.bool b) ∧ (b = true → ls.length ≤ 60) ∧ Below w.heap.size w w'

set_option maxHeartbeats 1000000 in
theorem few_any (ls : List SP) (p : Option Addr) (c : Nat) (w : World) (hp : Spans w p ls) (hn : ls.length ≤ 9223372036854775807) :
    Calls Try.prog 30 #[.slice p ls.length c] w (FewP ls w) := by
  have mx := mixedSp
  have HP := Lib.hid hp; clear hp
  have HF := Lib.hid (show ∀ b : Bool, ∀ w', (b = true → ls.length ≤ 60) → Below w.heap.size w w' → FewP ls w (.returned (.bool b)) w' from fun b w' h1 h2 => ⟨b, rfl, h1, h2⟩)
  obtain ⟨n, hln⟩ : ∃ n, ls.length = n := ⟨_, rfl⟩
  have HN := Lib.hid hln
  rw [hln] at hn HF ⊢
  clear hln
  go_enter Try.func30, Try.ntmps30
  go_wp2_with fail
  go_loopg [3, 4] n (fun gg s3 s4 wr => ∃ (i : Nat) (x : Int), i ≤ n ∧ n - i ≤ gg ∧ s3 = .int .i64 x ∧ s4 = .int .i64 i ∧ Hid (Below w.heap.size w wr))
  case atStart => exact ⟨0, 0, by omega, by omega, rfl, rfl, Lib.hid (Below.refl _ _)⟩
  case round =>
    obtain ⟨i, x, hin, hg, rfl, rfl, BW⟩ := hrel
    by_cases hlt : i < n
    · have hltz : (i : Int) < (n : Int) := by omega
      obtain ⟨b, o, rfl, hbl, c1, c2⟩ := span_cell HP.out BW.out (show i < ls.length by rw [HN.out]; exact hlt)
      obtain ⟨f, hf⟩ : ∃ f, ls[i]!.f = f := ⟨_, rfl⟩
      obtain ⟨t, ht⟩ : ∃ t, ls[i]!.t = t := ⟨_, rfl⟩
      rw [hf] at c1
      rw [ht] at c2
      clear hf ht
      go_wp2_with fail
      go_quiet (fail)
      go_wp2_with fail
      go_roundg (n - (i + 1))
      case measure => omega
      case rel => exact ⟨i + 1, _, by omega, by omega, rfl, by go_num, Lib.hid (below_drewN BW.out _)⟩
    · have hltz : ¬ (i : Int) < (n : Int) := by omega
      by_cases h60 : n ≤ 60
      · have h60z : (n : Int) ≤ 60 := by omega
        go_wp2_with fail
        all_goals
          go_ret
          exact HF.out _ _ (fun _ => h60) BW.out
      · have h60z : ¬ (n : Int) ≤ 60 := by omega
        go_wp2_with fail
        go_ret
        exact HF.out _ _ (fun h => by cases h) BW.out
end Go.Proofs.Ytfadpiipigkocaa
namespace Go.Proofs.Ytfadpiipigkocaa
open Go.RowKit Go.Gz

def RetSmA (w : World) (n : Nat) (e : Ending) (w' : World) : Prop := ∃ b, e = .returned (.bool b) ∧ (b = true → n ≤ 60) ∧ Below w.heap.size w w'
set_option maxHeartbeats 4000000 in
set_option maxRecDepth 100000 in
theorem small_any (w : World) (ep : Int) (L : List Sd) (p : Option Addr) (ca : Nat) (hp : RowK KS w p L) (hL : L.length ≤ 9223372036854775807) :
    Calls Try.prog 14 #[.agg #[.int .i64 ep, .slice p L.length ca]] w (RetSmA w L.length) := by
  obtain ⟨n, hN⟩ : ∃ n, L.length = n := ⟨_, rfl⟩
  have HN := Lib.hid hN
  rw [hN] at hL ⊢
  obtain ⟨w0, hw0⟩ : ∃ w0, w.alloc (.cells #[.int .i64 ep, .slice p n ca] 33) = w0 := ⟨_, rfl⟩
  have HB0 := Lib.hid (show Below w.heap.size w w0 from hw0 ▸ below_alloc _ _)
  have HBX := Lib.hid (show BoxA w0 w.heap.size ep (.slice p n ca) from hw0 ▸ BoxA.new w _ _ _)
  have HR := Lib.hid (hp.below HB0.out)
  have HF := Lib.hid (show ∀ b : Bool, ∀ w', (b = true → n ≤ 60) → Below w0.heap.size w0 w' → RetSmA w n (.returned (.bool b)) w' from fun b w' h1 h2 => ⟨b, rfl, h1, HB0.out.trans (h2.mono HB0.out.size)⟩)
  have HW0 := Lib.hid hw0
  clear hN hp hw0
  go_enter Try.func14, Try.ntmps14
  go_wp2_with fail
  rw [HW0.out]
  go_loopw [3, 4] (fun v i wr => ∃ k : Nat, i = .int .i64 k ∧ k ≤ n ∧ k ≤ 100 ∧ Hid (OwnK KP wr w0.heap.size 29 v ((L.take k).map Sd.sp)) ∧ Hid (Below w0.heap.size w0 wr)) (fun _ i _ => n - (RowKit.intOf i).toNat)
  case atStart => exact ⟨0, rfl, Nat.zero_le _, by omega, Lib.hid (OwnK.nil KP _ _ _), Lib.hid (Below.refl _ _)⟩
  case round =>
    obtain ⟨k, rfl, hkn, hk1, HOW, BW⟩ := hrel
    obtain ⟨hkb, x0, x1⟩ := HBX.out.below BW.out
    rcases Nat.lt_or_ge k n with hk | hk
    · have hkz : (k : Int) < (n : Int) := by omega
      rcases Nat.lt_or_ge k 100 with h1 | h1
      · have h1z : (k : Int) < 100 := by omega
        have hklt : k < L.length := by rw [HN.out]; exact hk
        obtain ⟨e, he⟩ : ∃ e, L.getD k default = e := ⟨_, rfl⟩
        obtain ⟨pb, po, rfl, hpb, hcell⟩ := HR.out.cells BW.out hklt
        rw [he] at hcell
        have HTK := Lib.hid (show (L.take (k + 1)).map Sd.sp = (L.take k).map Sd.sp ++ [e.sp] by
          rw [List.take_succ_eq_append_getElem hklt, ← he, List.map_append]
          simp [List.getD, hklt])
        have HLK := Lib.hid (show ((L.take k).map Sd.sp).length = k by rw [List.length_map, List.length_take]; omega)
        have HON := Lib.hid (RowK.block KP (L := [e.sp]) (alloc_at wr (.cells #[.string e.sp.f, .string e.sp.t] 29)))
        obtain ⟨⟨ef, et⟩, en, ee⟩ := e
        have z0 := hcell 0 (by decide)
        have z1 := hcell 1 (by decide)
        simp only [KS, Nat.add_zero] at z0 z1
        simp only at HON HTK
        clear hcell he
        obtain ⟨q, c, hvq, _⟩ := HOW.out.row
        go_wp2_with (at_builtin; refine wpList_app_k skt_span rfl _ _ rfl rfl (HOW.out.alloc _) (some ⟨wr.heap.size, 0, none⟩) 1 [⟨ef, et⟩] rfl HON.out (fun h => by cases h) (by have := HLK.out; simp only [List.length_cons, List.length_nil]; omega) (by have := BW.out.size; simp; omega) ?_; intro v4 w4 hown4 hgrow4 hat4)
        have HO4 := Lib.hid (show OwnK KP w4 w0.heap.size 29 v4 ((L.take (k + 1)).map Sd.sp) by rw [HTK.out]; exact hown4)
        have HB4 := Lib.hid ((BW.out.alloc BW.out.size _).grown hgrow4 (by have := BW.out.size; simp; omega) (fun g hg => (HOW.out.ltB g hg).1))
        exact ⟨⟨k + 1, by go_num, hk, by omega, HO4, HB4⟩, by simp [RowKit.intOf]; omega⟩
      · have h1z : ¬ (k : Int) < 100 := by omega
        have h60 : ¬ (n : Int) ≤ 60 := by omega
        have HQ := Lib.hid (HF.out false wr (fun h => by cases h) BW.out)
        clear HOW
        go_wp2_with fail
        go_ret
        exact HQ.out
    · have hkz : ¬ (k : Int) < (n : Int) := by omega
      obtain rfl : k = n := by omega
      by_cases h60 : k ≤ 60
      · have h60z : (k : Int) ≤ 60 := by omega
        obtain ⟨q, c, hvq, _, _, hrow, _⟩ := HOW.out.row
        have hlen : ((L.take k).map Sd.sp).length = k := by rw [List.length_map, List.length_take, HN.out]; omega
        have CF := Lib.hid (few_any ((L.take k).map Sd.sp) q c wr (spans_of hrow) (by rw [hlen]; omega))
        rw [hlen] at CF hvq
        subst hvq
        clear hrow HOW
        go_wp2_with fail
        refine CF.out.mono ?_
        rintro e w5 ⟨b, rfl, hb, hbl⟩
        have HQ := Lib.hid (HF.out b w5 (fun _ => h60) (BW.out.trans (hbl.mono BW.out.size)))
        clear hb hbl
        go_wp2_with fail
        go_ret
        exact HQ.out
      · have h60z : ¬ (k : Int) ≤ 60 := by omega
        have HQ := Lib.hid (HF.out false wr (fun h => by cases h) BW.out)
        clear HOW
        go_wp2_with fail
        go_ret
        exact HQ.out
end Go.Proofs.Ytfadpiipigkocaa
