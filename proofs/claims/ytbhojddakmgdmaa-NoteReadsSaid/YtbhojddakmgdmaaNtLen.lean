/-
  Layer note, the law's: what a small note packs to is small.
-/
import Derived.Test.YtbhojddakmgdmaaNtSmallS
import Derived.Test.YtbhojddakmgdmaaMg24
namespace Go.Proofs.Ytbhojddakmgdmaa
open Go.RowKit Go.Gz

theorem wrap_in {S : Nat} (h : S ≤ 60000000000) : wrap64 (S : Int) = S := by unfold wrap64; omega
theorem sumZ_lin {α : Type} (f g : α → Nat) (c : Nat) (h : ∀ x, f x ≤ c + g x) : ∀ xs : List α, sumZ f xs ≤ c * xs.length + sumZ g xs
  | [] => Nat.zero_le _
  | x :: xs => by
    have h1 := h x
    have h2 := sumZ_lin f g c h xs
    show f x + sumZ f xs ≤ c * (xs.length + 1) + (g x + sumZ g xs)
    rw [Nat.mul_add]
    omega
theorem sumZ_map {α β : Type} (f : α → β) (g : β → Nat) : ∀ xs : List α, sumZ g (xs.map f) = sumZ (fun x => g (f x)) xs
  | [] => rfl
  | x :: xs => by
    show g (f x) + sumZ g (xs.map f) = g (f x) + sumZ (fun x => g (f x)) xs
    rw [sumZ_map f g xs]
theorem sumZ_bd {α : Type} (f : α → Nat) (c m : Nat) : ∀ xs : List α, (∀ x ∈ xs, f x ≤ c) → xs.length ≤ m → sumZ f xs ≤ c * m
  | [], _, _ => Nat.zero_le _
  | x :: xs, h, hm => by
    obtain ⟨k, rfl⟩ : ∃ k, m = k + 1 := ⟨m - 1, by simp at hm; omega⟩
    have h1 := h x (List.mem_cons_self ..)
    have h2 := sumZ_bd f c k xs (fun y hy => h y (List.mem_cons_of_mem _ hy)) (by simpa using hm)
    show f x + sumZ f xs ≤ c * (k + 1)
    rw [Nat.mul_add]
    omega
theorem sumZ_leM' {α : Type} (sz : α → Nat) (c m : Nat) (h : ∀ x, sz x ≤ c) (xs : List α) (hm : xs.length ≤ m) : sumZ sz xs ≤ c * m := sumZ_bd sz c m xs (fun x _ => h x) hm
theorem size_data (b : ByteArray) : b.data.toList.length = b.size := by show _ = b.data.size; simp
theorem szR_txt (x : RecL) : szR x ≤ 8 + szL x := by
  have h1 := tlU_le x.1
  have h2 := tlU_le x.2
  show 4 + tlU x.1 + (4 + tlU x.2 + 0) ≤ 8 + (x.1.length + x.2.length)
  omega
theorem szH_txt (x : Sd) : szH x ≤ 16 + szS x.sp := by
  have h1 := tlU_le x.sp.f.data.toList
  have h2 := tlU_le x.sp.t.data.toList
  rw [size_data] at h1 h2
  show 4 + tlU x.sp.f.data.toList + (4 + tlU x.sp.t.data.toList + 0) + 8 ≤ 16 + (x.sp.f.size + x.sp.t.size)
  omega
theorem fin_len {K Y A S R E H T SS ls sh a1 a2 a3 a4 a b : Nat} (k1 : K ≤ A + 4 + H) (k2 : K = Y) (k3 : A ≤ 65612 + S + R + E) (m1 : R ≤ 8 * ls + T) (m2 : E ≤ 40000 * 21) (m3 : H ≤ 16 * sh + SS) (g4 : SS ≤ 3000) (m4 : S ≤ 8 + (a + b)) (g3 : a1 + a2 + a3 + a4 + a + b + T ≤ 20000) (m5 : ls ≤ 100) (m6 : sh ≤ 60) : Y ≤ 1000000 := by omega
theorem six_len {x1 x2 x3 x4 x5 x6 x7 : Nat} (b1 : x1 < 268435456) (b2 : x2 < 268435456) (b3 : x3 < 268435456) (b4 : x4 < 268435456) (b5 : x5 < 268435456) (b6 : x6 < 268435456) (b7 : x7 ≤ 53687091200) : x1 + x2 + x3 + x4 + x5 + x6 + x7 ≤ 60000000000 := by omega
/-- P16.2: a small note's bytes are few. -/
theorem pack_len {n : NtL} {Y : List UInt8} (hY : packN n = some Y) (hf : NtFew n) (hl : NtLit n) : Y.length ≤ 1000000 := by
  have hY := pack_lay hY
  obtain ⟨x, hok, -, hof⟩ := lay_packed hY
  obtain ⟨-, -, -, -, -, ⟨⟨-, -, -, -, a1, a2, a3, a4⟩, -⟩, -, ⟨s1, s2⟩, ⟨-, l1⟩, -, -, -, h1⟩ := hok
  have e1 : n.ask = askT x.2.2.2.2.2.1 := hof.ask
  have e2 := hof.sp
  have e3 : n.ls = x.2.2.2.2.2.2.2.2.1 := hof.ls
  have e4 : n.sh = x.2.2.2.2.2.2.2.2.2.2.2.map sdOf := hof.sh
  have b1 : n.ask.t.length < 268435456 := by rw [e1]; exact a1
  have b2 : n.ask.v.length < 268435456 := by rw [e1]; exact a2
  have b3 : n.ask.f.length < 268435456 := by rw [e1]; exact a3
  have b4 : n.ask.u.length < 268435456 := by rw [e1]; exact a4
  have b5 : n.sf.length < 268435456 := by rw [show n.sf = x.2.2.2.2.2.2.2.1.1 from congrArg Prod.fst e2]; exact s1
  have b6 : n.st.length < 268435456 := by rw [show n.st = x.2.2.2.2.2.2.2.1.2 from congrArg Prod.snd e2]; exact s2
  have b7 : sumZ szL n.ls ≤ 53687091200 := sumZ_bd szL 536870912 100 n.ls (fun y hy => by
    rw [e3] at hy
    obtain ⟨h2, h3⟩ := l1 y hy
    have h2 : y.1.length < 268435456 := h2
    have h3 : y.2.length < 268435456 := h3
    show y.1.length + y.2.length ≤ _
    omega) hf.ll
  have b8 : sumZ szS (n.sh.map Sd.sp) ≤ 32212254720 := by
    rw [sumZ_map]
    refine sumZ_bd _ 536870912 60 n.sh (fun y hy => ?_) hf.hl
    rw [e4] at hy
    obtain ⟨z, hz, rfl⟩ := List.mem_map.1 hy
    obtain ⟨⟨h2, h3⟩, -⟩ := h1 z hz
    have h2 : z.1.1.length < 268435456 := h2
    have h3 : z.1.2.length < 268435456 := h3
    show (strB z.1.1).size + (strB z.1.2).size ≤ _
    rw [strB_size, strB_size]
    omega
  have hT : txtN n ≤ 60000000000 := by
    unfold txtN
    rw [strB_size, strB_size, strB_size, strB_size, strB_size, strB_size]
    exact six_len b1 b2 b3 b4 b5 b6 b7
  have g1 : wrap64 (txtN n) = txtN n := wrap_in hT
  have g2 : wrap64 (sumZ szS (n.sh.map Sd.sp)) = sumZ szS (n.sh.map Sd.sp) := wrap_in (Nat.le_trans b8 (Nat.le_of_ble_eq_true rfl))
  have g3 := hl.txt
  have g4 := hl.spn
  rw [g1] at g3
  rw [g2] at g4
  have g3 : txtN n ≤ 20000 := Int.ofNat_le.1 g3
  have g4 : sumZ szS (n.sh.map Sd.sp) ≤ 3000 := Int.ofNat_le.1 g4
  have hLL := lay_len n
  have k1 := itemsS_len MX (shardS MX) szH (shardS_len MX) n.sh (lay7 n)
  have k2 : (Option.getD (itemsS MX (shardS MX) (lay7 n) n.sh) []).length = Y.length := by
    have : itemsS MX (shardS MX) (lay7 n) n.sh = some Y := hY
    rw [this]; rfl
  have k3 := hLL.l7
  have m1 := sumZ_lin szR szL 8 szR_txt n.ls
  have m2 := sumZ_leM' szE 40000 21 (fun y => by have := repS_len y.r; unfold szE; omega) n.la hf.al
  have m3 := sumZ_lin szH (fun y => szS y.sp) 16 szH_txt n.sh
  rw [sumZ_map] at g4
  have m4 : sizeU [n.sf, n.st] ≤ 8 + (n.sf.length + n.st.length) := by
    have h2 := tlU_le n.sf
    have h3 := tlU_le n.st
    show 4 + tlU n.sf + (4 + tlU n.st + 0) ≤ _
    omega
  unfold txtN at g3
  rw [strB_size, strB_size, strB_size, strB_size, strB_size, strB_size] at g3
  exact fin_len k1 k2 k3 m1 m2 m3 g4 m4 g3 hf.ll hf.hl
end Go.Proofs.Ytbhojddakmgdmaa
