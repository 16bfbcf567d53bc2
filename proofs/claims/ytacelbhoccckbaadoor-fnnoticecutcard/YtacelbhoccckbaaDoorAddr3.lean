/- An address's text, and whether it is ok: of the program and of the model. -/
import Derived.Test.YtacelbhoccckbaaDoorAddr2
namespace Go.Proofs.YtacelbhoccckbaaDoor.Ad1
open Go.RowKit Go.Proofs.YtacelbhoccckbaaDoor.EscM Go.Proofs.YtacelbhoccckbaaDoor.AddrM Go.Proofs.YtacelbhoccckbaaDoor.St Go.Proofs.YtacelbhoccckbaaDoor.EscL

theorem text_eq (A : Ad) : (⟨#[47, 47]⟩ : ByteArray) ++ A.house ++ pathS A = textS A := by
  unfold pathS textS textL
  apply ByteArray.ext; simp

end Go.Proofs.YtacelbhoccckbaaDoor.Ad1
