/-
  Layer grove, at int, string: len, depth, value, and how a node is made.
-/
import Derived.Test.YtaghflionakhhaaGvSide
namespace Go.Proofs.Ytaghflionakhhaa
open Go.RowKit

/-- a tree of this instance in memory. -/
abbrev TrIs (S : Nat → Prop) (w : World) (p : Option Addr) (t : GT Int ByteArray) : Prop := TrS (Value.int .i64) (Value.string) S w p t

theorem len_anyIs {S : Nat → Prop} {w : World} {p : Option Addr} {t : GT Int ByteArray} (h : TrIs S w p t) (hn : t.many ≤ 1000000000) :
    Calls Try.prog 75 #[.pointer p] w fun e w' => e = .returned (.int .i64 (t.many : Nat)) ∧ w = w' := by
  cases t with
  | nil =>
    obtain rfl : p = none := h
    clear hn
    go_enter Try.func75, Try.ntmps75
    go_wp2_with fail
    go_ret
    exact ⟨rfl, rfl⟩
  | node k v l r =>
    obtain ⟨b, pl, pr, rfl, -, -, c0, c1, c2, c3, c4, c5, -, -⟩ := h
    obtain ⟨n, hn'⟩ : ∃ n, (GT.node k v l r).many = n := ⟨_, rfl⟩
    rw [hn'] at c5 hn ⊢
    clear hn' c0 c1 c2 c3 c4
    go_enter Try.func75, Try.ntmps75
    go_wp2_with fail
    go_ret
    exact ⟨rfl, rfl⟩

theorem depth_anyIs {S : Nat → Prop} {w : World} {p : Option Addr} {t : GT Int ByteArray} (h : TrIs S w p t) :
    Calls Try.prog 79 #[.pointer p] w fun e w' => e = .returned (.int .i64 (t.deep : Nat)) ∧ w = w' := by
  cases t with
  | nil =>
    obtain rfl : p = none := h
    go_enter Try.func79, Try.ntmps79
    go_wp2_with fail
    go_ret
    exact ⟨rfl, rfl⟩
  | node k v l r =>
    obtain ⟨b, pl, pr, rfl, -, -, c0, c1, c2, c3, c4, c5, -, -⟩ := h
    obtain ⟨n, hn'⟩ : ∃ n, (GT.node k v l r).deep = n := ⟨_, rfl⟩
    rw [hn'] at c4 ⊢
    clear hn' c0 c1 c2 c3 c5
    go_enter Try.func79, Try.ntmps79
    go_wp2_with fail
    go_ret
    exact ⟨rfl, rfl⟩

theorem build_nodeIs (k : Int) (v : ByteArray) (d m : Int) (w : World) : (Instr.build 120 #[(0, .agg #[.int .i64 k, .string v]), (2, .int .i64 d), (3, .int .i64 m)]).run Try.prog w = .ok (.agg #[.int .i64 k, .string v, .pointer none, .pointer none, .int .i64 d, .int .i64 m]) w := by kernel_rfl
theorem build_itemIs (k : Int) (v : ByteArray) (w : World) : (Instr.build 99 #[(0, .int .i64 k), (1, .string v)]).run Try.prog w = .ok (.agg #[.int .i64 k, .string v]) w := by kernel_rfl

/-- a new node. -/
def GotIs (S : Nat → Prop) (w : World) (t : GT Int ByteArray) (e : Ending) (w' : World) : Prop := ∃ r, e = .returned (.pointer r) ∧ TrIs S w' r t ∧ Below w.heap.size w w'

theorem node_inIs {w W : World} {g : Nat} {k : Int} {v : ByteArray} {d m : Int} {S : Nat → Prop} {pl pr : Option Addr} {l r : GT Int ByteArray} (hb : Below w.heap.size w W) (hS : S g)
    (hl : TrIs S w pl l) (hr : TrIs S w pr r) (h : W.heap[g]? = some (.cells #[.int .i64 k, .string v, .pointer pl, .pointer pr, .int .i64 d, .int .i64 m] 120 (0, 0)))
    (hd : d = ((GT.node k v l r).deep : Nat)) (hm : m = ((GT.node k v l r).many : Nat)) : TrIs S W (some ⟨g, 0, none⟩) (.node k v l r) := by
  subst hd hm
  refine ⟨g, pl, pr, rfl, hS, (Array.getElem?_eq_some_iff.1 h).1, ?_, ?_, ?_, ?_, ?_, ?_, TrS.below hl hb, TrS.below hr hb⟩ <;> (simp only [World.cell?, h]; rfl)
end Go.Proofs.Ytaghflionakhhaa
