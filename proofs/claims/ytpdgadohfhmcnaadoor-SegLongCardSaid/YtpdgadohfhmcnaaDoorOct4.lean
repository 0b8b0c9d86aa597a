/-
  OCTET's LAST CALLS, walked: the error of what is written; the end of what is read.
-/
import Derived.Test.YtpdgadohfhmcnaaDoorOct3
namespace Go.Proofs.YtpdgadohfhmcnaaDoor
open Go.ChangeShapes Go.WideShapes Go.ChangeAt Go.RowKit
attribute [local go_sem ↓] Go.wp_at_zero Go.wp_at_succ
def endOf (r : ByteArray) (e : Int) : Int := if 0 < r.size then 4 else e
end Go.Proofs.YtpdgadohfhmcnaaDoor
