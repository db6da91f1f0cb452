/-
  What the statements' walks hold on to: blocks of two cells, numbers of the reference package, the tables. My own text.
-/
import Derived.Test.YtljkapolljgbiaaDoorLawA
import Derived.Test.YtljkapolljgbiaaDoorAlive
import Derived.Test.YtljkapolljgbiaaDoorWideC
namespace Go.Proofs.YtljkapolljgbiaaDoor
open Go.RowKit Go.Lib
set_option linter.unusedVariables false

/-- the named blocks hold the named cells; the named numbers are there; elder memory is as it was; the tables are laid. -/
structure HeldW (w : World) (Bs : List (Nat × Value × Value)) (Ns : List (Bool × Option Addr × Nat × Nat × Int)) (W : World) : Prop where
  bs : ∀ p ∈ Bs, Box W p.1 p.2.1 p.2.2
  ns : ∀ q ∈ Ns, IsN W q.1 q.2.1 q.2.2.1 q.2.2.2.1 q.2.2.2.2
  below : Below w.heap.size w W
  tab : Tab W
section
variable {w W w1 : World} {Bs : List (Nat × Value × Value)} {Ns : List (Bool × Option Addr × Nat × Nat × Int)}
theorem HeldW.call (h : HeldW w Bs Ns W) (hb : Below W.heap.size W w1) : HeldW w Bs Ns w1 :=
  ⟨fun p hp => (h.bs p hp).call hb, fun q hq => (h.ns q hq).call hb, below_call h.below hb, Tab.call h.tab hb⟩
theorem HeldW.alloc (h : HeldW w Bs Ns W) (o : Obj) : HeldW w Bs Ns (W.alloc o) := h.call ((Below.refl _ _).alloc (Nat.le_refl _) o)
theorem HeldW.drew (h : HeldW w Bs Ns W) : HeldW w Bs Ns W.drew := h.call ((Below.refl _ _).drew)
theorem HeldW.start (t : Tab w) : HeldW w [] [] w := ⟨fun p hp => (by cases hp), fun q hq => (by cases hq), Below.refl _ _, t⟩
/-- a block just made. -/
theorem HeldW.new {t : TypeId} {u v : Value} (h : HeldW w Bs Ns W) {g : Nat} (e : g = W.heap.size) : HeldW w ((g, u, v) :: Bs) Ns (W.alloc (.cells #[u, v] t)) := by
  have k := h.alloc (.cells #[u, v] t)
  refine ⟨fun p hp => ?_, k.ns, k.below, k.tab⟩
  rcases List.mem_cons.1 hp with rfl | hp
  · exact Box.new e
  · exact k.bs p hp
theorem HeldW.num {x : Bool} {A : Option Addr} {l c : Nat} {n : Int} (h : HeldW w Bs Ns W) (k : IsN W x A l c n) : HeldW w Bs ((x, A, l, c, n) :: Ns) W := by
  refine ⟨h.bs, fun q hq => ?_, h.below, h.tab⟩
  rcases List.mem_cons.1 hq with rfl | hq
  · exact k
  · exact h.ns q hq
theorem HeldW.b1 {g : Nat} {u v : Value} (h : HeldW w ((g, u, v) :: Bs) Ns W) : W.cell? ⟨g, 0, none⟩ = some u ∧ W.cell? ⟨g, 1, none⟩ = some v := (h.bs _ List.mem_cons_self).1
theorem HeldW.x1 {g : Nat} {u v : Value} (h : HeldW w ((g, u, v) :: Bs) Ns W) : Box W g u v := h.bs (g, u, v) List.mem_cons_self
theorem HeldW.tl {p : Nat × Value × Value} (h : HeldW w (p :: Bs) Ns W) : HeldW w Bs Ns W := ⟨fun q hq => h.bs q (List.mem_cons_of_mem _ hq), h.ns, h.below, h.tab⟩
theorem HeldW.n1 {x : Bool} {A : Option Addr} {l c : Nat} {n : Int} (h : HeldW w Bs ((x, A, l, c, n) :: Ns) W) : IsN W x A l c n := h.ns (x, A, l, c, n) List.mem_cons_self
theorem HeldW.ntl {p : Bool × Option Addr × Nat × Nat × Int} (h : HeldW w Bs (p :: Ns) W) : HeldW w Bs Ns W := ⟨h.bs, fun q hq => h.ns q (List.mem_cons_of_mem _ hq), h.below, h.tab⟩
end
/-- two numbers of the reference package in new blocks, beside two Ints. -/
def Cut2 (w : World) (b0 b1 : Nat × Value × Value) (n m : Int) (s t : Value) (W : World) : Prop :=
  ∃ g g' x A l c x' A' l' c', s = .pointer (some ⟨g, 0, none⟩) ∧ t = .pointer (some ⟨g', 0, none⟩) ∧ HeldW w [(g', .bool x', .slice A' l' c'), (g, .bool x, .slice A l c), b1, b0] [(x', A', l', c', m), (x, A, l, c, n)] W
theorem cut2_mk {w W : World} {g0 g1 : Nat} {u0 v0 u1 v1 : Value} {n m : Int} {g g' : Nat} {x x' : Bool} {A A' : Option Addr} {l c l' c' : Nat} (t : Tab w)
    (h1 : Box W g' (.bool x') (.slice A' l' c')) (h2 : Box W g (.bool x) (.slice A l c)) (h3 : Box W g1 u1 v1) (h4 : Box W g0 u0 v0) (k1 : IsN W x' A' l' c' m) (k2 : IsN W x A l c n) (hb : Below w.heap.size w W) :
    Cut2 w (g0, u0, v0) (g1, u1, v1) n m (.pointer (some ⟨g, 0, none⟩)) (.pointer (some ⟨g', 0, none⟩)) W := by
  refine ⟨g, g', x, A, l, c, x', A', l', c', rfl, rfl, ⟨fun p hp => ?_, fun q hq => ?_, hb, Tab.call t hb⟩⟩
  · simp only [List.mem_cons, List.mem_nil_iff, or_false] at hp
    rcases hp with rfl | rfl | rfl | rfl
    · exact h1
    · exact h2
    · exact h3
    · exact h4
  · simp only [List.mem_cons, List.mem_nil_iff, or_false] at hq
    rcases hq with rfl | rfl
    · exact k1
    · exact k2
theorem lenF {w : World} {neg : Bool} {A : Option Addr} {l c : Nat} {n : Int} (h : IsN w neg A l c n) (hf : fits n = true) {k : Nat} (hk : 10 ≤ k) : l ≤ k := Nat.le_trans (h.lenW hf) hk
end Go.Proofs.YtljkapolljgbiaaDoor
