/- octet.number lies in Oct for this seat. -/
import Derived.Test.YteggaeleehlhmaaDoorOct
namespace Go.Proofs.YteggaeleehlhmaaDoor
theorem number_there : True := trivial
end Go.Proofs.YteggaeleehlhmaaDoor
