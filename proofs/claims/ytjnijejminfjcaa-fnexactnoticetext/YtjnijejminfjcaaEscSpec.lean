import Derived.Test.YtjnijejminfjcaaEscNorm
namespace Go.Proofs.Ytjnijejminfjcaa.EscL
open Go.RowKit Go.Proofs.Ytjnijejminfjcaa.EscM

theorem str_app (a b : List UInt8) : (⟨a.toArray⟩ : ByteArray) ++ (⟨b.toArray⟩ : ByteArray) = ⟨(a ++ b).toArray⟩ := by
  apply ByteArray.ext; simp

theorem one_byte (W : World) (n : Int) (h0 : 0 ≤ n) (h1 : n ≤ 255) :
    (convert 47 9 (.slice (some ⟨W.heap.size, 0, none⟩) 1 1)).run Try.prog (W.alloc (.cells #[.int .u8 n] 5)) = .ok (.string ⟨#[toB n]⟩) (W.alloc (.cells #[.int .u8 n] 5)) := by
  refine run_convert_bytes_back _ _ _ _ _ 1 [toB n] Try.underlying47 Try.underlying5 Try.underlying9 ?_
  intro j hj
  match j, hj with
  | 0, _ => simp [Addr.add, toB_toNat n h0 h1]

theorem escN_at_short (s : ByteArray) (k : Nat) (h : k < s.size) (hb : ((s[k]'h).toNat : Int) = 37) (hl : s.size ≤ k + 2) : escN (s.data.toList.drop k) = none := by
  rcases meant_step (s.data.toList.drop k) (by rw [drop_cons s k h]; simp) with ⟨_, hn⟩ | ⟨b, m, hm, hm1, _, _⟩
  · exact hn
  · rw [meant_short s k h hb (by omega)] at hm
    have := congrArg Prod.snd hm
    simp at this; omega
theorem escN_at_plain (s : ByteArray) (k : Nat) (h : k < s.size) (hb : ¬ ((s[k]'h).toNat : Int) = 37) : escN (s.data.toList.drop k) = (escN (s.data.toList.drop (k + 1))).map (signL (s[k]'h).toNat ++ ·) := by
  rw [drop_cons s k h, escN_plain _ _ (ne37.2 hb)]
theorem escN_at_sign (s : ByteArray) (k : Nat) (h : k + 2 < s.size) (hb : ((s[k]'(by omega)).toNat : Int) = 37) :
    escN (s.data.toList.drop k) = if hexZ (s[k+1]'(by omega)).toNat < 0 ∨ hexZ (s[k+2]'h).toNat < 0 then none else (escN (s.data.toList.drop (k + 3))).map (signL (hexZ (s[k+1]'(by omega)).toNat * 16 + hexZ (s[k+2]'h).toNat) ++ ·) := by
  rw [drop_cons s k (by omega), drop_cons s (k+1) (by omega), drop_cons s (k + 2) h]
  have h37 : s[k]'(by omega) = 37 := UInt8.toNat.inj (by simp; omega)
  rw [h37, escN_sign]

/-- the end of a round: what was meant is written behind -/
theorem str_plain (l : List UInt8) (n : Int) (hp : plainZ n = true) : (⟨l.toArray⟩ : ByteArray) ++ (⟨#[toB n]⟩ : ByteArray) = ⟨(l ++ signL n).toArray⟩ := by
  rw [show signL n = [toB n] by simp [signL, hp]]; exact str_app l [toB n]
theorem str_sign (l : List UInt8) (n : Int) (hp : plainZ n = false) : (⟨l.toArray⟩ : ByteArray) ++ (⟨#[37, toB (figZ (n / 16)), toB (figZ (n % 16))]⟩ : ByteArray) = ⟨(l ++ signL n).toArray⟩ := by
  rw [show signL n = [37, toB (figZ (n / 16)), toB (figZ (n % 16))] by simp [signL, hp]]; exact str_app l _
theorem str_sign' (l : List UInt8) (a b : Int) (hp : plainZ (a * 16 + b) = false) : (⟨l.toArray⟩ : ByteArray) ++ (⟨#[37, toB (figZ ((a * 16 + b) / 16)), toB (figZ (b % 16))]⟩ : ByteArray) = ⟨(l ++ signL (a * 16 + b)).toArray⟩ := by
  have := str_sign l (a * 16 + b) hp
  rwa [show (a * 16 + b) % 16 = b % 16 by omega] at this
theorem val_str {a b : ByteArray} (h : a = b) : Value.string a = .string b := by rw [h]
theorem map_end {L : Option (List UInt8)} (l x : List UInt8) : (L.map (x ++ ·)).map (l ++ ·) = L.map ((l ++ x) ++ ·) := by cases L <;> simp

end Go.Proofs.Ytjnijejminfjcaa.EscL
