/-
  The statements of near, as rows want them. My own text.
-/
import Derived.Test.YtpopeipcjpfbaaaNearE
import Derived.Test.YtpopeipcjpfbaaaNearF
import Derived.Test.YtpopeipcjpfbaaaNearG
import Derived.Test.YtpopeipcjpfbaaaNearH
import Derived.Test.YtpopeipcjpfbaaaNearY
namespace Go.Proofs.Ytpopeipcjpfbaaa
open Go.RowKit
set_option linter.unusedVariables false
theorem k_alive8 : PCall Try.prog 8 [] (vB true) := p_alive8 k_Put k_Get k_Len k_All k_In k_Copy
theorem all_walk (l : List Ent) (_ : (l.length : Int) ≤ 9223372036854775807) : PCall Try.prog 3 [vEn l] (vB true) := law_All8 k_alive8 k_Put k_Len k_All
theorem gets_walk (l : List Ent) (x y : Int) (_ : (l.length : Int) ≤ 9223372036854775807) (_ : -9223372036854775808 ≤ x ∧ x ≤ 9223372036854775807) (_ : -9223372036854775808 ≤ y ∧ y ≤ 9223372036854775807) : PCall Try.prog 4 [vEn l, vP x y] (vB true) := law_Gets k_alive8 k_Put k_Get
theorem in_walk (l : List Ent) (a b c d : Int) (_ : (l.length : Int) ≤ 9223372036854775807) (_ : -9223372036854775808 ≤ a ∧ a ≤ 9223372036854775807) (_ : -9223372036854775808 ≤ b ∧ b ≤ 9223372036854775807) (_ : -9223372036854775808 ≤ c ∧ c ≤ 9223372036854775807) (_ : -9223372036854775808 ≤ d ∧ d ≤ 9223372036854775807) : PCall Try.prog 5 [vEn l, vP a b, vP c d] (vB true) := law_In8 k_alive8 k_Put k_In
theorem own_walk (l : List Ent) (x y w : Int) (_ : (l.length : Int) ≤ 9223372036854775807) (_ : -9223372036854775808 ≤ x ∧ x ≤ 9223372036854775807) (_ : -9223372036854775808 ≤ y ∧ y ≤ 9223372036854775807) (_ : -9223372036854775808 ≤ w ∧ w ≤ 9223372036854775807) : PCall Try.prog 6 [vEn l, .w (.agg [.c (.int .i64 x), .c (.int .i64 y), .c (.int .i64 w)])] (vB true) := law_Own8 k_alive8 k_Put k_All k_In k_Copy
theorem parts_walk (l : List Ent) (a b c d t : Int) (_ : (l.length : Int) ≤ 9223372036854775807) (ba : -9223372036854775808 ≤ a ∧ a ≤ 9223372036854775807) (_ : -9223372036854775808 ≤ b ∧ b ≤ 9223372036854775807) (_ : -9223372036854775808 ≤ c ∧ c ≤ 9223372036854775807) (_ : -9223372036854775808 ≤ d ∧ d ≤ 9223372036854775807) (bt : -9223372036854775808 ≤ t ∧ t ≤ 9223372036854775807) :
    PCall Try.prog 7 [vEn l, .w (.agg [.c (.int .i64 a), .c (.int .i64 b), .c (.int .i64 c), .c (.int .i64 d)]), vI t] (vB true) := law_Parts8 k_alive8 k_Put k_Get k_In bt ba.1
end Go.Proofs.Ytpopeipcjpfbaaa
