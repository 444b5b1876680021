/-
  Layer grove, at string, int: len, depth, value, and how a node is made.
-/
import Derived.Test.YtaghflionakhhaaGvSide
namespace Go.Proofs.Ytaghflionakhhaa
open Go.RowKit

/-- a tree of this instance in memory. -/
abbrev TrSi (S : Nat → Prop) (w : World) (p : Option Addr) (t : GT ByteArray Int) : Prop := TrS (Value.string) (Value.int .i64) S w p t

theorem len_anySi {S : Nat → Prop} {w : World} {p : Option Addr} {t : GT ByteArray Int} (h : TrSi S w p t) (hn : t.many ≤ 1000000000) :
    Calls Try.prog 57 #[.pointer p] w fun e w' => e = .returned (.int .i64 (t.many : Nat)) ∧ w = w' := by
  cases t with
  | nil =>
    obtain rfl : p = none := h
    clear hn
    go_enter Try.func57, Try.ntmps57
    go_wp2_with fail
    go_ret
    exact ⟨rfl, rfl⟩
  | node k v l r =>
    obtain ⟨b, pl, pr, rfl, -, -, c0, c1, c2, c3, c4, c5, -, -⟩ := h
    obtain ⟨n, hn'⟩ : ∃ n, (GT.node k v l r).many = n := ⟨_, rfl⟩
    rw [hn'] at c5 hn ⊢
    clear hn' c0 c1 c2 c3 c4
    go_enter Try.func57, Try.ntmps57
    go_wp2_with fail
    go_ret
    exact ⟨rfl, rfl⟩

theorem depth_anySi {S : Nat → Prop} {w : World} {p : Option Addr} {t : GT ByteArray Int} (h : TrSi S w p t) :
    Calls Try.prog 98 #[.pointer p] w fun e w' => e = .returned (.int .i64 (t.deep : Nat)) ∧ w = w' := by
  cases t with
  | nil =>
    obtain rfl : p = none := h
    go_enter Try.func98, Try.ntmps98
    go_wp2_with fail
    go_ret
    exact ⟨rfl, rfl⟩
  | node k v l r =>
    obtain ⟨b, pl, pr, rfl, -, -, c0, c1, c2, c3, c4, c5, -, -⟩ := h
    obtain ⟨n, hn'⟩ : ∃ n, (GT.node k v l r).deep = n := ⟨_, rfl⟩
    rw [hn'] at c4 ⊢
    clear hn' c0 c1 c2 c3 c5
    go_enter Try.func98, Try.ntmps98
    go_wp2_with fail
    go_ret
    exact ⟨rfl, rfl⟩

theorem build_nodeSi (k : ByteArray) (v : Int) (d m : Int) (w : World) : (Instr.build 109 #[(0, .agg #[.string k, .int .i64 v]), (2, .int .i64 d), (3, .int .i64 m)]).run Try.prog w = .ok (.agg #[.string k, .int .i64 v, .pointer none, .pointer none, .int .i64 d, .int .i64 m]) w := by kernel_rfl
theorem build_itemSi (k : ByteArray) (v : Int) (w : World) : (Instr.build 76 #[(0, .string k), (1, .int .i64 v)]).run Try.prog w = .ok (.agg #[.string k, .int .i64 v]) w := by kernel_rfl

/-- a new node. -/
def GotSi (S : Nat → Prop) (w : World) (t : GT ByteArray Int) (e : Ending) (w' : World) : Prop := ∃ r, e = .returned (.pointer r) ∧ TrSi S w' r t ∧ Below w.heap.size w w'

theorem node_inSi {w W : World} {g : Nat} {k : ByteArray} {v : Int} {d m : Int} {S : Nat → Prop} {pl pr : Option Addr} {l r : GT ByteArray Int} (hb : Below w.heap.size w W) (hS : S g)
    (hl : TrSi S w pl l) (hr : TrSi S w pr r) (h : W.heap[g]? = some (.cells #[.string k, .int .i64 v, .pointer pl, .pointer pr, .int .i64 d, .int .i64 m] 109 (0, 0)))
    (hd : d = ((GT.node k v l r).deep : Nat)) (hm : m = ((GT.node k v l r).many : Nat)) : TrSi S W (some ⟨g, 0, none⟩) (.node k v l r) := by
  subst hd hm
  refine ⟨g, pl, pr, rfl, hS, (Array.getElem?_eq_some_iff.1 h).1, ?_, ?_, ?_, ?_, ?_, ?_, TrS.below hl hb, TrS.below hr hb⟩ <;> (simp only [World.cell?, h]; rfl)
end Go.Proofs.Ytaghflionakhhaa
