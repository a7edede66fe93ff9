/- octet.number lies in Oct for this seat. -/
import Derived.Test.YtfppjpcolohmfaaOct
namespace Go.Proofs.Ytfppjpcolohmfaa
theorem number_there : True := trivial
end Go.Proofs.Ytfppjpcolohmfaa
