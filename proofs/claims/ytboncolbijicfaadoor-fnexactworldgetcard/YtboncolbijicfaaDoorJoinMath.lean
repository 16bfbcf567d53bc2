/- Plain mathematics of joining. -/
import Derived.Test.YtboncolbijicfaaDoorReadLaws
namespace Go.Proofs.YtboncolbijicfaaDoor.JnM
open Go.RowKit Go.Proofs.YtboncolbijicfaaDoor.EscM Go.Proofs.YtboncolbijicfaaDoor.AddrM Go.Proofs.YtboncolbijicfaaDoor.ReadM Go.Proofs.YtboncolbijicfaaDoor.St Go.Proofs.YtboncolbijicfaaDoor.EscL Go.Proofs.YtboncolbijicfaaDoor.PathM Go.Proofs.YtboncolbijicfaaDoor.Ad1 Go.Proofs.YtboncolbijicfaaDoor.Rd1 Go.Proofs.YtboncolbijicfaaDoor.RB

/-- where one comes by a text that has no cross -/
def goF (A : Ad) (l : List UInt8) : Option Ad :=
  if l.take 2 = [47, 47] then wholeF (l.drop 2)
  else if l = [] then some A
  else if l.head? = some 47 then wayF A.house [] (bs l)
  else if l.head? = some 63 then wayF A.house A.parts (bs l)
  else wayF A.house A.parts.dropLast (bs l)
def joinF (A : Ad) (l : List UInt8) : Option Ad := if okB A then if 60 < l.length then none else goF A (cutL 35 l).1 else none

theorem join_bad {A : Ad} {l : List UInt8} (h : okB A = false) : joinF A l = none := by unfold joinF; rw [h]; rfl
theorem join_go {A : Ad} {l : List UInt8} (h : okB A = true) (h2 : ¬ 60 < l.length) : joinF A l = goF A (cutL 35 l).1 := by unfold joinF; rw [h, if_neg h2]; rfl
theorem go_whole {A : Ad} {l : List UInt8} (h : l.take 2 = [47, 47]) : goF A l = wholeF (l.drop 2) := by unfold goF; rw [if_pos h]
theorem go_none {A : Ad} : goF A [] = some A := by unfold goF; simp
theorem go_door {A : Ad} {l : List UInt8} (h : ¬ l.take 2 = [47, 47]) (h1 : l.head? = some 47) : goF A l = wayF A.house [] (bs l) := by
  unfold goF; rw [if_neg h, if_neg (by intro e; rw [e] at h1; cases h1), if_pos h1]
theorem go_ask {A : Ad} {l : List UInt8} (h1 : l.head? = some 63) : goF A l = wayF A.house A.parts (bs l) := by
  unfold goF
  rw [if_neg (by intro e; cases l with | nil => cases h1 | cons a t => cases t with | nil => simp at e | cons b t => simp at e h1; rw [h1] at e; exact absurd e.1 (by decide)), if_neg (by intro e; rw [e] at h1; cases h1), if_neg (by rw [h1]; decide), if_pos h1]
theorem go_beside {A : Ad} {l : List UInt8} (h : ¬ l.take 2 = [47, 47]) (h0 : ¬ l = []) (h1 : ¬ l.head? = some 47) (h2 : ¬ l.head? = some 63) : goF A l = wayF A.house A.parts.dropLast (bs l) := by
  unfold goF; rw [if_neg h, if_neg h0, if_neg h1, if_neg h2]
theorem go_ok {A B : Ad} {l : List UInt8} (hA : okB A = true) (h : goF A l = some B) : okB B = true := by
  unfold goF at h
  split at h
  · exact RL.way_ok h
  · split at h
    · have := Option.some.inj h; subst this; exact hA
    · split at h
      · exact RL.way_ok h
      · split at h
        · exact RL.way_ok h
        · exact RL.way_ok h
theorem join_ok {A B : Ad} {l : List UInt8} (h : joinF A l = some B) : okB B = true := by
  unfold joinF at h
  cases hA : okB A with
  | false => rw [hA] at h; cases h
  | true =>
    rw [hA] at h
    simp only [if_true] at h
    split at h
    · cases h
    · exact go_ok hA h
theorem way_house {h : ByteArray} {f : List ByteArray} {way : ByteArray} {A : Ad} (e : wayF h f way = some A) : A.house = h := by
  unfold wayF at e
  split at e
  · cases e
  · split at e
    · split at e
      · have := Option.some.inj e; subst this; rfl
      · cases e
    · cases e
end Go.Proofs.YtboncolbijicfaaDoor.JnM
