/- A text of an address is drawn: at most 60 bytes, all ASCII. -/
import Derived.Test.YtjeohndfgamiaaaGreatDoorDraw8
namespace Go.Proofs.YtjeohndfgamiaaaGreatDoor.Dr
open Go.RowKit Go.Proofs.YtjeohndfgamiaaaGreatDoor.St Go.Proofs.YtjeohndfgamiaaaGreatDoor.AddrM Go.Proofs.YtjeohndfgamiaaaGreatDoor.EscL Go.Proofs.YtjeohndfgamiaaaGreatDoor.Ad1

end Go.Proofs.YtjeohndfgamiaaaGreatDoor.Dr
