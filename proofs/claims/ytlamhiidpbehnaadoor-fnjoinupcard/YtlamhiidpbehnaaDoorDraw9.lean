/- A text of an address is drawn: at most 60 bytes, all ASCII. -/
import Derived.Test.YtlamhiidpbehnaaDoorDraw8
namespace Go.Proofs.YtlamhiidpbehnaaDoor.Dr
open Go.RowKit Go.Proofs.YtlamhiidpbehnaaDoor.St Go.Proofs.YtlamhiidpbehnaaDoor.AddrM Go.Proofs.YtlamhiidpbehnaaDoor.EscL Go.Proofs.YtlamhiidpbehnaaDoor.Ad1

end Go.Proofs.YtlamhiidpbehnaaDoor.Dr
