/- The walk of PteRights. -/
import Derived.Test.YtfpdemlcmfaieaaPte
namespace Go.Proofs.Ytfpdemlcmfaieaa.Pt
open Go.RowKit

/-- may_any, with its answer named -/
theorem may_as (x : Int) (u r b : Bool) (hx : U x) (hb : my x u r = b) (w : World) :
    Calls Try.prog 78 #[.int .u32 x, .bool u, .bool r] w fun e w' => e = .returned (.bool b) ∧ w = w' := hb ▸ may_any x u r hx w

end Go.Proofs.Ytfpdemlcmfaieaa.Pt
