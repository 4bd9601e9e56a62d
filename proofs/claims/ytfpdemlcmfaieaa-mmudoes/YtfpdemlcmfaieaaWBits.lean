/- The walk of PteBits. -/
import Derived.Test.YtfpdemlcmfaieaaWRights
namespace Go.Proofs.Ytfpdemlcmfaieaa.Pt
open Go.RowKit

theorem is_as (x : Int) (b : Bool) (hx : U x) (hb : iv x = b) (w : World) :
    Calls Try.prog 79 #[.int .u32 x] w fun e w' => e = .returned (.bool b) ∧ w = w' := hb ▸ is_any x hx w
theorem written_as (x : Int) (b : Bool) (hx : U x) (hb : im x = b) (w : World) :
    Calls Try.prog 66 #[.int .u32 x] w fun e w' => e = .returned (.bool b) ∧ w = w' := hb ▸ written_any x hx w
theorem place_as (x va p : Int) (hx : U x) (hv : U va) (hp : pl x va = p) (w : World) :
    Calls Try.prog 74 #[.int .u32 x, .int .u32 va] w fun e w' => e = .returned (.int .u32 p) ∧ w = w' := hp ▸ place_any x va hx hv w

end Go.Proofs.Ytfpdemlcmfaieaa.Pt
