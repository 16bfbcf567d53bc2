/- Plain mathematics of addresses: what is ok, and how it is written. -/
import Derived.Test.YtiennniclkbjlaaGreatDoorEscMath
import Derived.Test.YtiennniclkbjlaaGreatDoorPathMath
import Derived.Lib.Join
namespace Go.Proofs.YtiennniclkbjlaaGreatDoor.AddrM
open Go.Proofs.YtiennniclkbjlaaGreatDoor.EscM

structure Ad where
  house : ByteArray
  parts : List ByteArray
  asks : Bool
  ask : ByteArray

def sumS : List ByteArray → Nat
  | [] => 0
  | x :: r => x.size + sumS r
def bulkA (a : Ad) : Nat := a.house.size + sumS a.parts + a.parts.length + a.ask.size

def smallB (s : ByteArray) : Bool := s.data.toList.all fun b => decide (97 ≤ (b.toNat : Int) ∧ (b.toNat : Int) ≤ 122)
def houseB (s : ByteArray) : Bool := decide (1 ≤ s.size ∧ s.size ≤ 5) && smallB s
def normB (s : ByteArray) : Bool := escB s && ((escS s).toList == s.toList)
def partB (s : ByteArray) : Bool := (!s.toList.isEmpty) && (!(s.toList == [46])) && (!(s.toList == [46, 46])) && normB s

def joinL : List ByteArray → List UInt8
  | [] => []
  | [x] => x.data.toList
  | x :: y :: r => x.data.toList ++ 47 :: joinL (y :: r)
def pathL (a : Ad) : List UInt8 := 47 :: (joinL a.parts ++ if a.asks then 63 :: a.ask.data.toList else [])
def textL (a : Ad) : List UInt8 := 47 :: 47 :: (a.house.data.toList ++ pathL a)
def pathS (a : Ad) : ByteArray := ⟨(pathL a).toArray⟩
def textS (a : Ad) : ByteArray := ⟨(textL a).toArray⟩

def okB (a : Ad) : Bool :=
  houseB a.house && decide (a.parts.length ≤ 5) && a.parts.all partB && (a.asks || a.ask.toList.isEmpty) && normB a.ask && decide ((textL a).length ≤ 60)

theorem joinL_one (x : ByteArray) : joinL [x] = x.data.toList := rfl
theorem joinL_snoc : ∀ (L : List ByteArray) (x : ByteArray), L ≠ [] → joinL (L ++ [x]) = joinL L ++ 47 :: x.data.toList := by
  intro L
  induction L with
  | nil => intro x h; exact absurd rfl h
  | cons y L ih =>
    intro x _
    rcases L with _ | ⟨z, L⟩
    · simp [joinL]
    · have := ih x (by simp)
      simp only [List.cons_append] at this ⊢
      simp only [joinL]
      rw [this]; simp
theorem joinL_len : ∀ L : List ByteArray, (joinL L).length ≤ sumS L + L.length := by
  intro L
  induction L with
  | nil => simp [joinL]
  | cons y L ih =>
    rcases L with _ | ⟨z, L⟩
    · simp [joinL, sumS]
    · simp only [joinL, sumS, List.length_append, List.length_cons] at ih ⊢
      have : y.data.toList.length = y.size := by simp
      omega
theorem join_eq : ∀ L : List ByteArray, Lib.join (L.map (·.data.toList)) [47] = joinL L := by
  intro L
  induction L with
  | nil => rfl
  | cons y L ih =>
    rcases L with _ | ⟨z, L⟩
    · simp [Lib.join_one, joinL]
    · simp only [List.map_cons, joinL] at ih ⊢
      rw [Lib.join_cons, ← ih, Lib.join_cons]
      simp [Lib.joinTail]
theorem pathL_len (a : Ad) : (pathL a).length ≤ bulkA a + 3 := by
  have := joinL_len a.parts
  unfold pathL bulkA
  have h2 : a.ask.data.toList.length = a.ask.size := by simp
  split <;> simp <;> omega
theorem textL_len (a : Ad) : (textL a).length ≤ 2 * bulkA a + 5 := by
  have := pathL_len a
  unfold textL
  have h2 : a.house.data.toList.length = a.house.size := by simp
  have h3 : a.house.size ≤ bulkA a := by unfold bulkA; omega
  simp; omega
theorem sum_mem {L : List ByteArray} {s : ByteArray} (h : s ∈ L) : s.size ≤ sumS L := by
  induction L with
  | nil => cases h
  | cons x r ih =>
    simp only [sumS]
    rcases List.mem_cons.1 h with rfl | h
    · omega
    · have := ih h; omega
end Go.Proofs.YtiennniclkbjlaaGreatDoor.AddrM
