/- Plain mathematics of signs and bytes: no Go, no program. -/
namespace Go.Proofs.YtiennniclkbjlaaGreatDoor.EscM

/-- what a figure of sixteen is worth; -1, if it is none -/
def hexZ (n : Int) : Int :=
  if 48 ≤ n ∧ n ≤ 57 then n - 48 else if 97 ≤ n ∧ n ≤ 102 then n - 87 else if 65 ≤ n ∧ n ≤ 70 then n - 55 else -1

/-- does a byte stand for itself? -/
def plainZ (n : Int) : Bool := decide (97 ≤ n ∧ n ≤ 122 ∨ 48 ≤ n ∧ n ≤ 57 ∨ n = 46 ∨ n = 45)

/-- the great figure of a number below sixteen -/
def figZ (n : Int) : Int := if n < 10 then 48 + n else 55 + n

def toB (n : Int) : UInt8 := UInt8.ofNat n.toNat

/-- how a byte is written -/
def signL (n : Int) : List UInt8 := if plainZ n then [toB n] else [37, toB (figZ (n / 16)), toB (figZ (n % 16))]

/-- a text written in one way -/
def escN : List UInt8 → Option (List UInt8)
  | [] => some []
  | b :: rest =>
    if b = 37 then
      match rest with
      | h :: l :: rest' =>
        if hexZ h.toNat < 0 ∨ hexZ l.toNat < 0 then none
        else (escN rest').map (signL (hexZ h.toNat * 16 + hexZ l.toNat) ++ ·)
      | _ => none
    else (escN rest).map (signL b.toNat ++ ·)

/-- EscNorm, as a function on lists -/
def escF (l : List UInt8) : List UInt8 × Bool :=
  if 60 < l.length then ([], false) else match escN l with | some x => (x, true) | none => ([], false)

def escS (s : ByteArray) : ByteArray := ⟨(escF s.data.toList).1.toArray⟩
def escB (s : ByteArray) : Bool := (escF s.data.toList).2

/-- where a byte stands, from a place on; -1, if it does not -/
def placeFrom : List UInt8 → Int → Nat → Int
  | [], _, _ => -1
  | b :: r, n, k => if (b.toNat : Int) = n then (k : Int) else placeFrom r n (k + 1)

def plainSigns : List UInt8 := [97, 98, 99, 100, 101, 102, 103, 104, 105, 106, 107, 108, 109, 110, 111, 112, 113, 114, 115, 116, 117, 118, 119, 120, 121, 122, 48, 49, 50, 51, 52, 53, 54, 55, 56, 57, 46, 45]
def hexSigns : List UInt8 := [48, 49, 50, 51, 52, 53, 54, 55, 56, 57, 65, 66, 67, 68, 69, 70]

theorem fin256 {p : Int → Prop} (h : ∀ k : Fin 256, p (k.val : Int)) (n : Int) (h0 : 0 ≤ n) (h1 : n ≤ 255) : p n := by
  have := h ⟨n.toNat, by omega⟩
  simpa [Int.toNat_of_nonneg h0] using this

theorem place_plain (n : Int) (h0 : 0 ≤ n) (h1 : n ≤ 255) : decide (0 ≤ placeFrom plainSigns n 0) = plainZ n :=
  fin256 (p := fun n => decide (0 ≤ placeFrom plainSigns n 0) = plainZ n) (by decide +kernel) n h0 h1
theorem place_hex (n : Int) (h0 : 0 ≤ n) (h1 : n ≤ 255) : placeFrom hexSigns (if 97 ≤ n ∧ n ≤ 102 then n - 32 else n) 0 = hexZ n :=
  fin256 (p := fun n => placeFrom hexSigns (if 97 ≤ n ∧ n ≤ 102 then n - 32 else n) 0 = hexZ n) (by decide +kernel) n h0 h1
theorem fig_hex (n : Int) (h0 : 0 ≤ n) (h1 : n < 16) : ((hexSigns.getD n.toNat 0).toNat : Int) = figZ n := by
  have h : ∀ k : Fin 16, ((hexSigns.getD k.val 0).toNat : Int) = figZ (k.val : Int) := by decide +kernel
  have := h ⟨n.toNat, by omega⟩
  simpa [Int.toNat_of_nonneg h0] using this

theorem fin16 {p : Int → Prop} (h : ∀ k : Fin 16, p (k.val : Int)) (n : Int) (h0 : 0 ≤ n) (h1 : n < 16) : p n := by
  have := h ⟨n.toNat, by omega⟩
  simpa [Int.toNat_of_nonneg h0] using this
theorem hex_ext (q : Int) (h0 : 0 ≤ q) (h1 : q < 16) :
    (⟨#[48, 49, 50, 51, 52, 53, 54, 55, 56, 57, 65, 66, 67, 68, 69, 70]⟩ : ByteArray).extract q.toNat (q + 1).toNat = ⟨#[toB (figZ q)]⟩ :=
  fin16 (p := fun q => (⟨#[48, 49, 50, 51, 52, 53, 54, 55, 56, 57, 65, 66, 67, 68, 69, 70]⟩ : ByteArray).extract q.toNat (q + 1).toNat = ⟨#[toB (figZ q)]⟩) (by decide +kernel) q h0 h1
theorem toB_toNat (n : Int) (h0 : 0 ≤ n) (h1 : n ≤ 255) : ((toB n).toNat : Int) = n := by
  unfold toB
  rw [UInt8.toNat_ofNat', Nat.mod_eq_of_lt (by omega)]; omega
theorem figZ_bd (n : Int) (h0 : 0 ≤ n) (h1 : n < 16) : 48 ≤ figZ n ∧ figZ n ≤ 70 := by unfold figZ; split <;> omega

theorem hexZ_bd (n : Int) : -1 ≤ hexZ n ∧ hexZ n ≤ 15 := by unfold hexZ; repeat' split <;> omega

end Go.Proofs.YtiennniclkbjlaaGreatDoor.EscM
