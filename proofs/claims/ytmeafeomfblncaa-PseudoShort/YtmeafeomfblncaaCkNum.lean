/- octet.number lies in Oct for this seat. -/
import Derived.Test.YtmeafeomfblncaaOct
namespace Go.Proofs.Ytmeafeomfblncaa
theorem number_there : True := trivial
end Go.Proofs.Ytmeafeomfblncaa
