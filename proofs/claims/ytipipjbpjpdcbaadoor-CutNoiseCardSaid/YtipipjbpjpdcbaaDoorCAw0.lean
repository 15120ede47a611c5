/- Layer 7: what the package is to do (as a premise, till it has landed); awake's numbers. -/
import Derived.Test.YtipipjbpjpdcbaaDoorCLaw1
namespace Go.Proofs.YtipipjbpjpdcbaaDoor.Ct
set_option linter.unusedVariables false
open Go.RowKit
open Go.Proofs.YtipipjbpjpdcbaaDoor.W
open Go.Proofs.YtipipjbpjpdcbaaDoor.V
open Go.Proofs.YtipipjbpjpdcbaaDoor.O
open Go.Proofs.YtipipjbpjpdcbaaDoor.Pb (Alr)
open Go.Proofs.YtipipjbpjpdcbaaDoor.Al

/-- What the functions of the package give. -/
structure CutC : Prop where
  counts : ∀ (num : Int) (l : List Int) (A E : Option Addr) (c cE B : Nat) (s : List Alr) (w : World), VW w B num l A c → AS w B s E cE → B ≤ w.heap.size → s.length ≤ 1000 → H.Tab w →
    Calls Tryd.prog 11 #[.agg #[.int .i64 num, .slice A l.length c], .slice E s.length cE] w (OutT w (tallies K num l s) (tallies K num l s).length)
  unst : ∀ (num : Int) (l : List Int) (A E : Option Addr) (c cE B : Nat) (s : List Alr) (w : World), VW w B num l A c → AS w B s E cE → B ≤ w.heap.size → s.length ≤ 1000 → H.Tab w →
    Calls Tryd.prog 16 #[.agg #[.int .i64 num, .slice A l.length c], .slice E s.length cE] w (OutInt w (susp K num l s false))
  stab : ∀ (num : Int) (l : List Int) (A E : Option Addr) (c cE B : Nat) (s : List Alr) (w : World), VW w B num l A c → AS w B s E cE → B ≤ w.heap.size → s.length ≤ 1000 → H.Tab w →
    Calls Tryd.prog 18 #[.agg #[.int .i64 num, .slice A l.length c], .slice E s.length cE] w (OutInt w (susp K num l s true))
  prop : ∀ (num : Int) (l : List Int) (A E : Option Addr) (c cE B : Nat) (s : List Alr) (w : World), VW w B num l A c → AS w B s E cE → B ≤ w.heap.size → s.length ≤ 1000 → H.Tab w →
    Calls Tryd.prog 13 #[.agg #[.int .i64 num, .slice A l.length c], .slice E s.length cE] w (OutLB w ((propA K num l s).getD []) ((propA K num l s).getD []).length (propA K num l s).isSome)
theorem obsB : obsL K [1, 2, 3] 3 = [1, 2, 1, 1, 1] := by decide +kernel
def alB (r : Nat) (o : Int) : Alr := ⟨0, (r : Int), o, 3⟩
def s5B : List Alr := [alB 0 1, alB 1 2, alB 2 1, alB 3 1, alB 4 1]
def s3B : List Alr := [alB 0 1, alB 1 2, alB 2 1]
theorem okB5 : okS K 0 [1, 2, 3] s5B = true := by decide +kernel
theorem okB3 : okS K 0 [1, 2, 3] s3B = true := by decide +kernel
theorem proB5 : propA K 0 [1, 2, 3] s5B = some [3] := by decide +kernel
theorem proB3 : propA K 0 [1, 2, 3] s3B = none := by decide +kernel
theorem susB3 : susp K 0 [1, 2, 3] s3B false = [3] := by decide +kernel
theorem talB3 : tallies K 0 [1, 2, 3] s3B = [⟨3, 3, 0⟩] := by decide +kernel
end Go.Proofs.YtipipjbpjpdcbaaDoor.Ct
