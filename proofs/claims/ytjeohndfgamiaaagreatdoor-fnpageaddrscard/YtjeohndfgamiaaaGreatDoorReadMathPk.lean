/- Several texts in one: ReadMath, Read1, Read2, Step. -/
import Derived.Test.YtjeohndfgamiaaaGreatDoorAddrMath
import Derived.Test.YtjeohndfgamiaaaGreatDoorEscMathPk
import Derived.Test.YtjeohndfgamiaaaGreatDoorStrs
import Derived.Laws.AppendOwnNone
import Derived.Deep.RegionLaw
/- Plain mathematics of reading an address. -/
namespace Go.Proofs.YtjeohndfgamiaaaGreatDoor.ReadM
open Go.Proofs.YtjeohndfgamiaaaGreatDoor.EscM Go.Proofs.YtjeohndfgamiaaaGreatDoor.AddrM Go.Proofs.YtjeohndfgamiaaaGreatDoor.PathM

/-- a text cut at the first byte of a kind -/
def cutL (c : Int) : List UInt8 → List UInt8 × List UInt8 × Bool
  | [] => ([], [], false)
  | b :: r => if (b.toNat : Int) = c then ([], r, true) else (b :: (cutL c r).1, (cutL c r).2.1, (cutL c r).2.2)

/-- a text cut at each byte of a kind -/
def splitL (c : Int) : List UInt8 → List (List UInt8)
  | [] => [[]]
  | b :: r => if (b.toNat : Int) = c then [] :: splitL c r else (b :: (splitL c r).headD []) :: (splitL c r).tail

theorem split_ne (c : Int) (l : List UInt8) : splitL c l ≠ [] := by
  cases l with
  | nil => simp [splitL]
  | cons b r => unfold splitL; split <;> simp
theorem split_cons (c : Int) (b : UInt8) (r : List UInt8) : splitL c (b :: r) = if (b.toNat : Int) = c then [] :: splitL c r else (b :: (splitL c r).headD []) :: (splitL c r).tail := rfl
theorem cut_cons (c : Int) (b : UInt8) (r : List UInt8) : cutL c (b :: r) = if (b.toNat : Int) = c then ([], r, true) else (b :: (cutL c r).1, (cutL c r).2.1, (cutL c r).2.2) := rfl
theorem split_cut (c : Int) : ∀ l : List UInt8, splitL c l = (cutL c l).1 :: if (cutL c l).2.2 then splitL c (cutL c l).2.1 else [] := by
  intro l
  induction l with
  | nil => simp [splitL, cutL]
  | cons b r ih =>
    rw [split_cons, cut_cons]
    by_cases h : (b.toNat : Int) = c
    · simp [h]
    · simp only [if_neg h]
      rw [ih]; simp
theorem cut_len (c : Int) : ∀ l : List UInt8, (cutL c l).1.length + (cutL c l).2.1.length ≤ l.length ∧ ((cutL c l).2.2 = true → (cutL c l).2.1.length < l.length) := by
  intro l
  induction l with
  | nil => simp [cutL]
  | cons b r ih =>
    unfold cutL
    split
    · simp
    · simp only [List.length_cons]
      refine ⟨by omega, fun h => ?_⟩
      have := ih.2 h
      omega
theorem cut_at (c : Int) : ∀ (l : List UInt8) (k : Nat) (h : k < l.length), (∀ i (hi : i < k), ((l[i]'(by omega)).toNat : Int) ≠ c) → ((l[k]'h).toNat : Int) = c → cutL c l = (l.take k, l.drop (k + 1), true) := by
  intro l
  induction l with
  | nil => intro k h; simp at h
  | cons b r ih =>
    intro k h hn he
    cases k with
    | zero => unfold cutL; rw [if_pos (by simpa using he)]; simp
    | succ k =>
      have h0 := hn 0 (by omega)
      unfold cutL
      rw [if_neg (by simpa using h0)]
      have := ih k (by simpa using h) (fun i hi => by have := hn (i + 1) (by omega); simpa using this) (by simpa using he)
      rw [this]; simp
theorem cut_none (c : Int) : ∀ l : List UInt8, (∀ i (hi : i < l.length), ((l[i]'hi).toNat : Int) ≠ c) → cutL c l = (l, [], false) := by
  intro l
  induction l with
  | nil => intro _; rfl
  | cons b r ih =>
    intro hn
    have h0 := hn 0 (by simp)
    unfold cutL
    rw [if_neg (by simpa using h0)]
    rw [ih (fun i hi => by have := hn (i + 1) (by simpa using hi); simpa using this)]

def bs (l : List UInt8) : ByteArray := ⟨l.toArray⟩
def splitS (c : Int) (s : ByteArray) : List ByteArray := (splitL c s.data.toList).map bs
theorem split_len (c : Int) : ∀ l : List UInt8, (splitL c l).length ≤ l.length + 1 := by
  intro l
  induction l with
  | nil => simp [splitL]
  | cons b r ih =>
    unfold splitL
    split
    · simp; omega
    · simp only [List.length_cons, List.length_tail]; omega

/-- small letters -/
def smallZ (n : Int) : Int := if 65 ≤ n ∧ n ≤ 90 then n + 32 else n
def smallL (l : List UInt8) : List UInt8 := l.map fun b => toB (smallZ b.toNat)

theorem split_mem (c : Int) : ∀ (l z : List UInt8), z ∈ splitL c l → z.length ≤ l.length := by
  intro l
  induction l with
  | nil => intro z hz; simp [splitL] at hz; subst hz; simp
  | cons b r ih =>
    intro z hz
    rw [split_cons] at hz
    by_cases h : (b.toNat : Int) = c
    · rw [if_pos h] at hz
      rcases List.mem_cons.1 hz with rfl | hz
      · simp
      · have := ih z hz; simp; omega
    · rw [if_neg h] at hz
      rcases List.mem_cons.1 hz with rfl | hz
      · have h2 : ((splitL c r).headD []).length ≤ r.length := by
          cases hs : splitL c r with
          | nil => simp
          | cons y t => have := ih y (by rw [hs]; simp); simpa using this
        simp at h2 ⊢; omega
      · have := ih z (List.mem_of_mem_tail hz); simp; omega
theorem splitS_mem (c : Int) (s z : ByteArray) (h : z ∈ splitS c s) : z.size ≤ s.size := by
  unfold splitS at h
  obtain ⟨l, hl, rfl⟩ := List.mem_map.1 h
  have := split_mem c _ l hl
  show l.toArray.size ≤ _
  simp at this ⊢; omega

/-- all of a list written by EscNorm; none, if one cannot be -/
def normS : List ByteArray → Option (List ByteArray)
  | [] => some []
  | x :: r => if escB x then (normS r).map (escS x :: ·) else none
def zeroAd : Ad := ⟨⟨#[]⟩, [], false, ⟨#[]⟩⟩
/-- a way, behind parts -/
def wayF (house : ByteArray) (frm : List ByteArray) (way : ByteArray) : Option Ad :=
  match normS (splitS 47 (bs (cutL 63 way.data.toList).1)) with
  | none => none
  | some ps =>
    if escB (bs (cutL 63 way.data.toList).2.1) then
      if okB ⟨house, cleanL (frm ++ ps), (cutL 63 way.data.toList).2.2, escS (bs (cutL 63 way.data.toList).2.1)⟩ then
        some ⟨house, cleanL (frm ++ ps), (cutL 63 way.data.toList).2.2, escS (bs (cutL 63 way.data.toList).2.1)⟩
      else none
    else none

theorem normS_no {L : List ByteArray} {k : Nat} (hk : k < L.length) (h : escB L[k] = false) : normS L = none := by
  induction L generalizing k with
  | nil => simp at hk
  | cons x r ih =>
    cases k with
    | zero => simp at h; simp [normS, h]
    | succ k =>
      have := ih (k := k) (by simpa using hk) (by simpa using h)
      simp only [normS, this]
      split <;> rfl
theorem normS_all {L : List ByteArray} (h : ∀ x ∈ L, escB x = true) : normS L = some (L.map escS) := by
  induction L with
  | nil => rfl
  | cons x r ih =>
    simp only [normS, h x (by simp), if_true]
    rw [ih (fun y hy => h y (by simp [hy]))]; rfl

theorem sumS_append (A B : List ByteArray) : sumS (A ++ B) = sumS A + sumS B := by
  induction A with
  | nil => simp [sumS]
  | cons x r ih => simp only [List.cons_append, sumS, ih]; omega
theorem sumS_dropLast (L : List ByteArray) : sumS L.dropLast ≤ sumS L := by
  induction L with
  | nil => simp [sumS]
  | cons x r ih =>
    cases r with
    | nil => simp [sumS]
    | cons y r => simp only [List.dropLast_cons_of_ne_nil (show y :: r ≠ [] by simp), sumS] at ih ⊢; omega
theorem sum_step (acc : List ByteArray) (s : ByteArray) : sumS (cleanStep acc s) ≤ sumS acc + s.size := by
  unfold cleanStep
  split
  · omega
  · split
    · have := sumS_dropLast acc; omega
    · rw [sumS_append]; simp [sumS]
theorem sum_fold : ∀ (L acc : List ByteArray), sumS (L.foldl cleanStep acc) ≤ sumS acc + sumS L := by
  intro L
  induction L with
  | nil => intro acc; simp [sumS]
  | cons x r ih =>
    intro acc
    have h1 := ih (cleanStep acc x)
    have h2 := sum_step acc x
    simp only [List.foldl_cons, sumS]; omega
theorem sum_clean (L : List ByteArray) : sumS (cleanL L) ≤ sumS L := by have := sum_fold L []; simpa [cleanL, sumS] using this
theorem sum_le {L : List ByteArray} {m : Nat} (h : ∀ s ∈ L, s.size ≤ m) : sumS L ≤ L.length * m := by
  induction L with
  | nil => simp [sumS]
  | cons x r ih =>
    have h1 := h x (by simp)
    have h2 := ih (fun y hy => h y (by simp [hy]))
    simp only [sumS, List.length_cons, Nat.add_mul]; omega
end Go.Proofs.YtjeohndfgamiaaaGreatDoor.ReadM
/- The model's reading of an address: cut, split, small letters. -/
namespace Go.Proofs.YtjeohndfgamiaaaGreatDoor.Rd1
open Go.RowKit Go.Proofs.YtjeohndfgamiaaaGreatDoor.EscM Go.Proofs.YtjeohndfgamiaaaGreatDoor.AddrM Go.Proofs.YtjeohndfgamiaaaGreatDoor.ReadM Go.Proofs.YtjeohndfgamiaaaGreatDoor.St Go.Proofs.YtjeohndfgamiaaaGreatDoor.EscL

theorem bs_data (s : ByteArray) : bs s.data.toList = s := by unfold bs; cases s; simp
theorem ext_take (s : ByteArray) (k : Nat) : s.extract 0 k = bs (s.data.toList.take k) := by
  unfold bs; apply ByteArray.ext; apply Array.toList_inj.1; simp [ByteArray.data_extract]
theorem ext_drop (s : ByteArray) (k : Nat) : s.extract k s.size = bs (s.data.toList.drop k) := by
  unfold bs; apply ByteArray.ext; apply Array.toList_inj.1; simp [ByteArray.data_extract]
  rw [List.take_of_length_le (by simp)]

theorem ret3 {a b c d : ByteArray} {x y : Bool} (h : a = b) (h' : c = d) (h'' : x = y) : Ending.returned (.tuple #[.string a, .string c, .bool x]) = .returned (.tuple #[.string b, .string d, .bool y]) := by rw [h, h', h'']

set_option maxRecDepth 100000 in
set_option maxHeartbeats 1600000 in
theorem specCut_any (s : ByteArray) (c : Int) (w : World) (hs : s.size ≤ 4194304) (_hc0 : 0 ≤ c) (_hc1 : c ≤ 255) :
    Calls Tryz.prog 54 #[.string s, .int .u8 c] w fun e w' => e = .returned (.tuple #[.string (bs (cutL c s.data.toList).1), .string (bs (cutL c s.data.toList).2.1), .bool (cutL c s.data.toList).2.2]) ∧ ∃ n, w' = w.drewN n := by
  go_enter Tryz.func54, Tryz.ntmps54
  go_wp2
  go_loop [7] (fun i => ∃ k : Nat, k ≤ s.size ∧ i = .int .i64 (k : Int) ∧ Hid (∀ i (hi : i < k) (hi2 : i < s.data.toList.length), ((s.data.toList[i]'hi2).toNat : Int) ≠ c)) (fun i => s.size - (intOf i).toNat)
  case atStart => exact ⟨0, Nat.zero_le _, rfl, fun i hi => absurd hi (by omega)⟩
  case round =>
    obtain ⟨k, hk, rfl, HN⟩ := hrel
    by_cases hlt : k < s.size
    · have hlt' : k < s.data.toList.length := by simpa using hlt
      by_cases he : ((s[k]'hlt).toNat : Int) = c
      · have HC : Hid (cutL c s.data.toList = (s.data.toList.take k, s.data.toList.drop (k + 1), true)) := cut_at c _ k hlt' (fun i hi => HN.out i hi (by omega)) he
        have heb : (((s[k]'hlt).toNat : Int) == c) = true := by simpa using he
        have hw1 : IntKind.i64.wrap ((k : Int) + 1) = (k : Int) + 1 := IntWalk.i64_in _ (by omega)
        have hb1 : (k : Int) + 1 ≤ (s.size : Int) := by omega
        have hb0 : (0 : Int) ≤ (k : Int) + 1 := by omega
        have hb2 : (k : Int) ≤ (s.size : Int) := by omega
        clear he
        go_wp2
        go_quiet (fail)
        go_wp2
        go_ret3
        rw [HC.out]
        exact ⟨ret3 (ext_take s k) (ext_drop s (k + 1)) rfl, nq, rfl⟩
      · have HN2 : Hid (∀ i (hi : i < k + 1) (hi2 : i < s.data.toList.length), ((s.data.toList[i]'hi2).toNat : Int) ≠ c) := by
          intro i hi hi2
          by_cases e : i = k
          · subst e; exact he
          · exact HN.out i (by omega) hi2
        have heb : (((s[k]'hlt).toNat : Int) == c) = false := by simpa using he
        clear he
        go_wp2
        go_round
        case rel => exact ⟨k + 1, by omega, by go_num, HN2.out⟩
        case measure => simp [intOf]; omega
    · have HC : Hid (cutL c s.data.toList = (s.data.toList, [], false)) := cut_none c _ (fun i hi => HN.out i (by simp at hi; omega) hi)
      go_wp2
      go_ret3
      rw [HC.out]
      exact ⟨ret3 (bs_data s).symm rfl rfl, 0, rfl⟩

def splitM (r m : Value) : Nat := match r, m with | .string s, .bool true => s.size + 1 | _, _ => 0
theorem bs_size (l : List UInt8) : (bs l).size = l.length := by unfold bs; show l.toArray.size = _; simp

set_option maxRecDepth 100000 in
set_option maxHeartbeats 1600000 in
theorem specSplit_any (s : ByteArray) (c : Int) (w : World) (hs : s.size ≤ 1000000) (hc0 : 0 ≤ c) (hc1 : c ≤ 255) :
    Calls Tryz.prog 75 #[.string s, .int .u8 c] w fun e w' => ∃ v, e = .returned v ∧ Owns w' w.heap.size v (splitS c s) ∧ Below w.heap.size w w' := by
  obtain ⟨i0, hi, hz0, hz1, hz2⟩ := info_parts Tryz.infoS
  go_enter Tryz.func75, Tryz.ntmps75
  go_wp2
  go_loopw [5, 6, 7] (fun v r m wr => ∃ (L : List ByteArray) (l : List UInt8) (b : Bool), r = .string (bs l) ∧ m = .bool b ∧ Hid (splitS c s = L ++ if b then (splitL c l).map bs else []) ∧ Hid (Owns wr w.heap.size v L) ∧ Below w.heap.size w wr ∧ L.length + l.length ≤ s.size + 1 ∧ (b = true → L.length + l.length ≤ s.size)) (fun _ r m _ => splitM r m)
  case atStart => exact ⟨[], s.data.toList, true, by rw [bs_data], rfl, by show _ = _; simp [splitS], Owns.empty _ _ (Nat.le_refl _), (Below.refl _ _).alloc (Nat.le_refl _) _, by simp, by simp⟩
  case round =>
    obtain ⟨L, l, b, rfl, rfl, HE, HO, hbel, hlen, hlen2⟩ := hrel
    cases b with
    | true =>
      have hl2 := hlen2 rfl
      have hcl := cut_len c l
      have hsc := split_cut c l
      have HC : Hid _ := hcl
      have HSC : Hid _ := hsc
      clear hcl hsc hlen hlen2
      go_wp2_with fail
      refine (specCut_any (bs l) c _ (by rw [bs_size]; omega) hc0 hc1).mono ?_
      rintro e w1 ⟨rfl, n, rfl⟩
      rw [show (bs l).data.toList = l from by unfold bs; simp]
      have HO1 : Hid (Owns (wr.drewN n) w.heap.size u5 L) := Owns.keep HO.out fun _ _ => rfl
      have hb1 : Below w.heap.size w (wr.drewN n) := below_drewN hbel n
      generalize wr.drewN n = w1 at *
      generalize (cutL c l).1 = x at *
      generalize (cutL c l).2.1 = y at *
      generalize (cutL c l).2.2 = f at *
      go_wp2_with (at_builtin; refine wpList_append_own _ rfl _ _ 23 rfl w.heap.size 9 i0 (.string ⟨#[]⟩) 1 16 Tryz.underlying23 hi hz0 hz1 hz2 rfl (by decide) _ _ _ rfl (World.ownsRow.alloc HO1.out _) ⟨w1.heap.size, 0, none⟩ 1 1 [.string (bs x)] rfl rfl (cell_one_new _ _ _) ?c2 ?c3 ?c4 ?c5 ?_)
      case c2 => intro u hu; simp at hu; subst hu; rfl
      case c3 => unfold maxLen; omega
      case c4 => omega
      case c5 => have := hb1.size; simp; omega
      intro v' w2 hown' hgrow _
      have HO' : Hid _ := hown'
      have HG : Hid _ := hgrow
      clear hown' hgrow
      go_wp2
      go_roundw
      case rel =>
        refine ⟨L ++ [bs x], y, f, rfl, rfl, ?_, Owns.append HO'.out, ?_, ?_, ?_⟩
        · show _ = _
          rw [HE.out]
          simp only [if_true]
          rw [HSC.out]
          cases f <;> simp
        · exact Below.grown (hb1.alloc hb1.size _) HG.out (by have := hb1.size; simp; omega) (Owns.block HO1.out)
        · have := HC.out.1; simp; omega
        · intro h; have := HC.out.1; have := HC.out.2 h; simp; omega
      case measure =>
        have := HC.out.1
        have h2 := HC.out.2
        cases f with
        | true => have := h2 rfl; simp only [splitM, bs_size]; omega
        | false => simp [splitM]
    | false =>
      have HE2 : Hid (splitS c s = L) := by show _ = _; rw [HE.out]; simp
      go_wp2
      go_ret
      exact ⟨_, rfl, by rw [HE2.out]; exact HO.out, hbel⟩
end Go.Proofs.YtjeohndfgamiaaaGreatDoor.Rd1
/- The model's reading of an address: small letters. -/
namespace Go.Proofs.YtjeohndfgamiaaaGreatDoor.Rd1
open Go.RowKit Go.Proofs.YtjeohndfgamiaaaGreatDoor.EscM Go.Proofs.YtjeohndfgamiaaaGreatDoor.AddrM Go.Proofs.YtjeohndfgamiaaaGreatDoor.ReadM Go.Proofs.YtjeohndfgamiaaaGreatDoor.St Go.Proofs.YtjeohndfgamiaaaGreatDoor.EscL

theorem bytes_of (s : ByteArray) (w : World) : ∃ cap wm, (convert 9 22 (.string s)).run Tryz.prog w = .ok (.slice (some ⟨w.heap.size, 0, none⟩) s.size cap) wm ∧ s.size ≤ cap ∧
    (∀ j (h : j < s.size), wm.cell? ⟨w.heap.size, j, none⟩ = some (.int .u8 ((s[j]'h).toNat : Int))) ∧ (∀ j, j < s.size → wm.frozen? ⟨w.heap.size, j, none⟩ = false) ∧ Below w.heap.size w wm := by
  refine ⟨_, _, run_bytes_of_string w 9 22 5 s Tryz.underlying9 Tryz.underlying22 Tryz.underlying5, grownCap_ge w s.size 0 5, ?_, ?_, ?_⟩
  · intro j h
    have e := World.cell?_alloc_mark w.drew (bytesRow s (grownCap w s.size 0 5)) 5 ((bytesRow s (grownCap w s.size 0 5)).size, (bytesRow s (grownCap w s.size 0 5)).size + 1) j
    rw [show (⟨w.heap.size, j, none⟩ : Addr) = ⟨w.drew.heap.size, j, none⟩ from rfl, e]
    unfold bytesRow
    have h' : j < s.data.size := h
    rw [Array.getElem?_append_left (by simpa using h)]
    simp only [Array.getElem?_map, Array.getElem?_eq_getElem h', Option.map_some]
    rfl
  · intro j h
    have hh : (w.drew.alloc (.cells (bytesRow s (grownCap w s.size 0 5)) 5 ((bytesRow s (grownCap w s.size 0 5)).size, (bytesRow s (grownCap w s.size 0 5)).size + 1))).heap[w.heap.size]? = some (.cells (bytesRow s (grownCap w s.size 0 5)) 5 ((bytesRow s (grownCap w s.size 0 5)).size, (bytesRow s (grownCap w s.size 0 5)).size + 1)) := by
      show (w.heap.push _)[w.heap.size]? = _
      simp
    have hsz : s.size ≤ (bytesRow s (grownCap w s.size 0 5)).size := by
      unfold bytesRow
      rw [Array.size_append, Array.size_map]
      exact Nat.le_add_right _ _
    simp only [World.frozen?, hh]
    simp; omega
  · exact ((Below.refl _ w).drew).alloc (Nat.le_refl _) _

theorem small_keep {s : ByteArray} {wr : World} {B k : Nat} (hlt : k < s.size) (h : ∀ j (h : j < s.size), wr.cell? ⟨B, j, none⟩ = some (.int .u8 (if j < k then smallZ (s[j]'h).toNat else ((s[j]'h).toNat : Int)))) (he : smallZ (s[k]'hlt).toNat = ((s[k]'hlt).toNat : Int)) :
    ∀ j (h : j < s.size), wr.cell? ⟨B, j, none⟩ = some (.int .u8 (if j < k + 1 then smallZ (s[j]'h).toNat else ((s[j]'h).toNat : Int))) := by
  intro j hj
  rw [h j hj]
  by_cases e : j = k
  · subst e; rw [if_neg (by omega), if_pos (by omega), he]
  · by_cases e2 : j < k
    · rw [if_pos e2, if_pos (by omega)]
    · rw [if_neg e2, if_neg (by omega)]
theorem small_set {s : ByteArray} {wr : World} {B k : Nat} {v : Int} (hlt : k < s.size) (h : ∀ j (h : j < s.size), wr.cell? ⟨B, j, none⟩ = some (.int .u8 (if j < k then smallZ (s[j]'h).toNat else ((s[j]'h).toNat : Int)))) (he : smallZ (s[k]'hlt).toNat = v) :
    ∀ j (h : j < s.size), (wr.setCell ⟨B, k, none⟩ (.int .u8 v)).cell? ⟨B, j, none⟩ = some (.int .u8 (if j < k + 1 then smallZ (s[j]'h).toNat else ((s[j]'h).toNat : Int))) := by
  intro j hj
  by_cases e : j = k
  · subst e
    rw [World.cell?_setCell_same wr _ _ (h j hj), if_pos (by omega), he]
  · rw [World.cell?_setCell_other _ _ _ _ (by intro e'; injection e' with _ e'' _; exact e e''.symm), h j hj]
    by_cases e2 : j < k
    · rw [if_pos e2, if_pos (by omega)]
    · rw [if_neg e2, if_neg (by omega)]

set_option maxRecDepth 100000 in
set_option maxHeartbeats 1600000 in
theorem specSmall_any (s : ByteArray) (w : World) (hs : s.size ≤ 1000000) :
    Calls Tryz.prog 74 #[.string s] w fun e w' => e = .returned (.string (bs (smallL s.data.toList))) ∧ Below w.heap.size w w' := by
  obtain ⟨cap, wm, hrun, hcap, hcell, hfz, hbm⟩ := bytes_of s w
  have HC : Hid _ := hcell
  have HF : Hid _ := hfz
  clear hcell hfz
  go_enter Tryz.func74, Tryz.ntmps74
  go_wp2
  go_loopw [4] (fun i wr => ∃ k : Nat, k ≤ s.size ∧ i = .int .i64 (k : Int) ∧ Hid (∀ j (h : j < s.size), wr.cell? ⟨w.heap.size, j, none⟩ = some (.int .u8 (if j < k then smallZ (s[j]'h).toNat else ((s[j]'h).toNat : Int)))) ∧ Hid (∀ j, j < s.size → wr.frozen? ⟨w.heap.size, j, none⟩ = false) ∧ Below w.heap.size w wr) (fun i _ => s.size - (intOf i).toNat)
  case atStart => exact ⟨0, Nat.zero_le _, rfl, (by intro j h; rw [HC.out j h]; simp), HF, hbm⟩
  case round =>
    obtain ⟨k, hk, rfl, HK, HZ, hbel⟩ := hrel
    clear hrun
    by_cases hlt : k < s.size
    · have ck := HK.out k hlt
      rw [if_neg (by omega)] at ck
      have zk := HZ.out k hlt
      have hble := byte_le (s[k]'hlt)
      have HSM : Hid (smallZ (s[k]'hlt).toNat = if 65 ≤ ((s[k]'hlt).toNat : Int) ∧ ((s[k]'hlt).toNat : Int) ≤ 90 then ((s[k]'hlt).toNat : Int) + 32 else ((s[k]'hlt).toNat : Int)) := rfl
      by_cases h1 : 65 ≤ ((s[k]'hlt).toNat : Int)
      · by_cases h2 : ((s[k]'hlt).toNat : Int) ≤ 90
        · have HN : Hid _ := small_set (B := w.heap.size) (v := ((s[k]'hlt).toNat : Int) + 32) hlt HK.out (by rw [HSM.out, if_pos ⟨h1, h2⟩])
          have HW : Hid (Below w.heap.size w (wr.setCell ⟨w.heap.size, k, none⟩ (.int .u8 (((s[k]'hlt).toNat : Int) + 32)))) := Below.setCell hbel (Nat.le_refl _) _
          go_wp2
          go_roundw
          case rel => exact ⟨k + 1, by omega, by go_num, HN.out, (by intro j h; rw [World.frozen?_setCell]; exact HZ.out j h), HW.out⟩
          case measure => simp [intOf]; omega
        · have HN : Hid _ := small_keep hlt HK.out (by rw [HSM.out, if_neg (by omega)])
          go_wp2
          go_roundw
          case rel => exact ⟨k + 1, by omega, by go_num, HN.out, HZ, hbel⟩
          case measure => simp [intOf]; omega
      · have HN : Hid _ := small_keep hlt HK.out (by rw [HSM.out, if_neg (by omega)])
        go_wp2
        go_roundw
        case rel => exact ⟨k + 1, by omega, by go_num, HN.out, HZ, hbel⟩
        case measure => simp [intOf]; omega
    · have hstr : (convert 22 9 (.slice (some ⟨w.heap.size, 0, none⟩) s.size cap)).run Tryz.prog wr = .ok (.string (bs (smallL s.data.toList))) wr := by
        have hl : (smallL s.data.toList).length = s.size := by simp [smallL]
        have := run_convert_bytes_back (P := Tryz.prog) wr 22 9 5 ⟨w.heap.size, 0, none⟩ cap (smallL s.data.toList) Tryz.underlying22 Tryz.underlying5 Tryz.underlying9 ?_
        · rw [hl] at this; exact this
        · intro j hj
          have hj' : j < s.size := by omega
          rw [add_mk, Nat.zero_add, HK.out j hj', if_pos (by omega)]
          have hb := byte_le (s[j]'hj')
          have hz : 0 ≤ smallZ (s[j]'hj').toNat ∧ smallZ (s[j]'hj').toNat ≤ 255 := by unfold smallZ; split <;> omega
          have e : (smallL s.data.toList)[j] = toB (smallZ (s[j]'hj').toNat) := by simp [smallL]; rfl
          rw [e, toB_toNat _ hz.1 hz.2]
      go_wp2
      go_ret
      exact ⟨rfl, hbel⟩
end Go.Proofs.YtjeohndfgamiaaaGreatDoor.Rd1
/- append onto a row of the call's own, from whatever slice, as a step of a region, drawn or not. -/
namespace Go.Proofs.YtjeohndfgamiaaaGreatDoor.St
open Go.RowKit

theorem run_app_any {P : Program} (w : World) (base : Nat) (t ty e : TypeId) (i : TypeInfo) (z : Value) (size bytes : Nat) (h1 : P.underlying t = some (.slice e)) (h2 : P.info? e = some i) (h3 : i.zero = some z) (h4 : i.size = size) (h5 : i.bytes = bytes) (h6 : z.cells.size = size) (h7 : 0 < size)
    (v : Value) (n : Nat) (xs : List Value) (hown : w.ownsRow base e size v n xs) (ao : Option Addr) (m c : Nat) (news : List Value) (hnone : ao = none → m = 0 ∧ c = 0) (hn : news.length = m * size) (hc : ∀ ad, ao = some ad → ∀ j u, news[j]? = some u → w.cell? (ad.add j) = some u) (h1c : ∀ u ∈ news, u.oneCell' = true)
    (b1 : n + m ≤ maxLen) (b2 : (n + m) * bytes ≤ 140737488355328) (hbase : base ≤ w.heap.size) :
    ∃ v' w', (Builtin.append_ #[t, t] ty #[v, .slice ao m c]).run P w = .ok v' w' ∧ w'.ownsRow base e size v' (n + m) (xs ++ news) ∧ w.grownBy w' v.ownBlock := by
  cases ao with
  | none =>
    obtain ⟨rfl, rfl⟩ := hnone rfl
    have : news = [] := List.eq_nil_of_length_eq_zero (by omega)
    subst this
    refine ⟨v, w, run_append_owned_none (P := P) (w := w) base t ty e i size h1 h2 v n xs hown, by simpa using hown, ⟨rfl, rfl, rfl, Nat.le_refl _, fun _ _ _ => rfl⟩⟩
  | some ad =>
    obtain ⟨v', w', hrun, r1, r2, _⟩ := run_append_own (P := P) w base t ty e i z size bytes h1 h2 h3 h4 h5 h6 h7 v n xs hown ad m c news hn (hc ad rfl) h1c b1 b2 hbase
    exact ⟨v', w', hrun, r1, r2⟩

theorem step_app {P : Program} {ops : Array Oper} {o : Oper} {a : Act} {w : World} {K : Act → World → Prop} {Q : Exit → Act → World → Prop} {E : Prop}
    (hg : o.guard = none) (s x : Operand) (t : TypeId) (hop : o.op = Op.call { callee := Callee.builtin Builtin.append, args := #[s, x], argTypes := #[t, t] })
    (base : Nat) (e : TypeId) (i : TypeInfo) (z : Value) (size bytes : Nat) (h1 : P.underlying t = some (.slice e)) (h2 : P.info? e = some i) (h3 : i.zero = some z) (h4 : i.size = size) (h5 : i.bytes = bytes) (h6 : z.cells.size = size) (h7 : 0 < size)
    (v : Value) (n : Nat) (xs : List Value) (hs : a.eval s = v) (hown : w.ownsRow base e size v n xs)
    (ao : Option Addr) (m c : Nat) (news : List Value) (hx : a.eval x = .slice ao m c) (hnone : ao = none → m = 0 ∧ c = 0) (hn : news.length = m * size) (hc : ∀ ad, ao = some ad → ∀ j u, news[j]? = some u → w.cell? (ad.add j) = some u) (h1c : ∀ u ∈ news, u.oneCell' = true)
    (b1 : n + m ≤ maxLen) (b2 : (n + m) * bytes ≤ 140737488355328) (hbase : base ≤ w.heap.size)
    (hK : ∀ v' w', w'.ownsRow base e size v' (n + m) (xs ++ news) → w.grownBy w' v.ownBlock → K (a.put o.dst v') w') :
    if Region.wanted o (yielded ops a.tmps) = true then Oper.wp P o a w K Q else E := by
  have hw : Region.wanted o (yielded ops a.tmps) = true := by simp [Region.wanted, hg]
  rw [if_pos hw]
  obtain ⟨v', w', hrun, r1, r2⟩ := run_app_any (P := P) w base t o.type e i z size bytes h1 h2 h3 h4 h5 h6 h7 v n xs hown ao m c news hnone hn hc h1c b1 b2 hbase
  unfold Oper.wp
  simp [execOp, hop, resolve, invoke, builtin, hs, hx, hrun, Result.andThen]
  exact hK v' w' r1 r2

theorem wpList_app {P : Program} {w : World} {ops : Array Oper} {rest : List Oper} {o : Oper} {a : Act} {Q : Exit → Act → World → Prop} (hgd : o.guard = none) (s x : Operand) (t : TypeId)
    (ho : o.op = .call { callee := .builtin .append, args := #[s, x], argTypes := #[t, t] })
    (base : Nat) (e : TypeId) (i : TypeInfo) (z : Value) (size bytes : Nat) (h1 : P.underlying t = some (.slice e)) (h2 : P.info? e = some i) (h3 : i.zero = some z) (h4 : i.size = size) (h5 : i.bytes = bytes) (h6 : z.cells.size = size) (h7 : 0 < size)
    (v : Value) (n : Nat) (xs : List Value) (hs : a.eval s = v) (hown : w.ownsRow base e size v n xs)
    (ao : Option Addr) (m c : Nat) (news : List Value) (hx : a.eval x = .slice ao m c) (hnone : ao = none → m = 0 ∧ c = 0) (hn : news.length = m * size) (hc : ∀ ad, ao = some ad → ∀ j u, news[j]? = some u → w.cell? (ad.add j) = some u) (h1c : ∀ u ∈ news, u.oneCell' = true)
    (b1 : n + m ≤ maxLen) (b2 : (n + m) * bytes ≤ 140737488355328) (hbase : base ≤ w.heap.size)
    (h : ∀ v' w', w'.ownsRow base e size v' (n + m) (xs ++ news) → w.grownBy w' v.ownBlock → wpList P ops Q rest (a.put o.dst v') w') : wpList P ops Q (o :: rest) a w := by
  refine wpList_plain hgd fun K hK => ?_
  obtain ⟨v', w', hrun, r1, r2⟩ := run_app_any (P := P) w base t o.type e i z size bytes h1 h2 h3 h4 h5 h6 h7 v n xs hown ao m c news hnone hn hc h1c b1 b2 hbase
  unfold Oper.wp
  simp [execOp, ho, resolve, invoke, builtin, hs, hx, hrun, Result.andThen]
  exact hK _ _ (h v' w' r1 r2)

theorem IsStrs.none {w : World} {a0 : Option Addr} {cap : Nat} {L : List ByteArray} (h : IsStrs w a0 cap L) : a0 = .none → L.length = 0 ∧ cap = 0 := by
  intro e
  have h1 := h.2.2.1 e
  have h2 := h.1
  omega
theorem IsStrs.newsAny {w : World} {a0 : Option Addr} {cap : Nat} {L : List ByteArray} (h : IsStrs w a0 cap L) {w' : World} (hb : ∀ k, k < w.heap.size → w'.heap[k]? = w.heap[k]?) : ∀ ad, a0 = some ad → ∀ j u, (cellsS L)[j]? = some u → w'.cell? (ad.add j) = some u := by
  intro ad e j u hj
  have hj' : j < L.length := by have := (List.getElem?_eq_some_iff.1 hj).1; rwa [cellsS_len] at this
  obtain ⟨b, off, e', hc⟩ := h.2.2.2 (by intro e; rw [e] at hj'; simp at hj')
  rw [e] at e'
  injection e' with e'
  subst e'
  subst e
  exact h.news hb j u hj
/-- the parts from a place on -/
theorem IsStrs.from {w : World} {g o cap : Nat} {L : List ByteArray} (h : IsStrs w (some ⟨g, o, .none⟩) cap L) (n : Nat) (hn : n ≤ L.length) : IsStrs w (some ⟨g, o + n, .none⟩) (cap - n) (L.drop n) := by
  obtain ⟨h1, h2, h3, h4⟩ := h
  refine ⟨by simp; omega, by omega, (fun e => by cases e), fun hne => ?_⟩
  obtain ⟨b, off, e, hc⟩ := h4 (by intro e; subst e; simp at hne)
  injection e with e; injection e with e1 e2 _
  subst e1; subst e2
  refine ⟨g, o + n, rfl, fun i hi => ?_⟩
  have hi' : n + i < L.length := by simp at hi; omega
  have := hc (n + i) hi'
  rw [show o + n + i = o + (n + i) by omega, this]; simp
end Go.Proofs.YtjeohndfgamiaaaGreatDoor.St
