/- The contracts of package ring, gathered. Conditions: as each states. -/
import Derived.Test.YtkacbeighaccjaaRdV
import Derived.Test.YtkacbeighaccjaaRdK
import Derived.Test.YtkacbeighaccjaaRdJ
namespace Go.Proofs.Ytkacbeighaccjaa
open Go Go.RowKit
set_option linter.unusedVariables false
set_option linter.unusedSimpArgs false

theorem rcheck_t (es : List En) (a : Option Addr) (n c : Nat) (w : World) (hI : InE w a n c es) (hn : n ≤ 1048576) (z : Int) (hz : CkZ es z) :
    Calls Try.prog 27 #[.slice a n c] w fun e w' => e = .returned (errR z) ∧ Below w.heap.size w w' := rcheck_c es a n c w hI hn z hz
theorem rchoose_t (f : Fl) (es : List En) (a : Option Addr) (n c : Nat) (w : World) (hI : InE w a n c es) (hn : n ≤ 1048576) (hf : TyF f) :
    Calls Try.prog 25 #[f.val, .slice a n c] w (RCh w f es) := rchoose_c f es a n c w hI (by omega) hf
end Go.Proofs.Ytkacbeighaccjaa
