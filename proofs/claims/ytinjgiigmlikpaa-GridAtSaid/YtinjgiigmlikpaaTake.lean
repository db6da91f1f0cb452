/-
  A step of a drawn region, taken by hand; Shl at every shift that is not below 0. My own text.
-/
import Derived.Test.YtinjgiigmlikpaaWideF
import Derived.Deep.RegionHeld3
namespace Go.Proofs.Ytinjgiigmlikpaa
open Go.RowKit
set_option linter.unusedVariables false

/-- the library's law, the slot that is written told beside it. -/
theorem takeH {P : Program} {ops : Array Oper} {Q : Exit → Act → World → Prop} {md : Region.Mode} {S : World → Prop} {i t : Nat} {oi : Oper} {v : Value} {fuel : Nat} {listed : Array Bool} {a : Act} {w : World} (hi : ops[i]? = some oi) (hd : oi.dst = some t)
    (hs : Region.noSelect ops = true) (hf : Region.free md ops listed i = true) (hr : (Region.ready md ops listed).contains i = true)
    (hQ : ∀ c a w, Q (.panic c) (a.put oi.dst v) w → Q (.panic c) a w) (hy : YieldsIf P ops S oi v a) (hS : S w)
    (h : wpAnyH P md ops Q S fuel (listed.setIfInBounds i true) (a.put (some t) v) w) : wpAnyH P md ops Q S (fuel + 1) listed a w :=
  wpAnyH_take hi hs hf hr hQ hy hS (by rw [hd]; exact h)
theorem Shl_any (h1 l1 n k : Int) (w : World) (H1 : IsW h1 l1 n) (hk : 0 ≤ k) (hk2 : k < 9223372036854775808) :
    Calls Try.prog 27 #[.agg #[.int .i64 h1, .int .u64 l1], .int .i64 k] w (RWF (n * 2 ^ k.toNat) w) := by
  by_cases e : n = 0
  · subst e
    obtain ⟨rfl, rfl⟩ := H1.inj isW0
    rw [Int.zero_mul]
    exact (Shl_zero k w hk).mono fun e w' ⟨he, hb⟩ => ⟨0, 0, he, by show IsW 0 0 0; exact isW0, hb⟩
  · exact Shl_pos h1 l1 n k w H1 e hk hk2
end Go.Proofs.Ytinjgiigmlikpaa
