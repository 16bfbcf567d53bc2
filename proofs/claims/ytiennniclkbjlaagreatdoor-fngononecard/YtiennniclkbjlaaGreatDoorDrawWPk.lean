/- Several texts in one: DrawW, DrawW2, DrawW3, DrawWN. -/
import Derived.Test.YtiennniclkbjlaaGreatDoorDraw5Pk
import Derived.Test.YtiennniclkbjlaaGreatDoorDraw14Pk
import Derived.Test.YtiennniclkbjlaaGreatDoorLets2Pk
import Derived.Test.YtiennniclkbjlaaGreatDoorJoin1Pk
import Derived.Test.YtiennniclkbjlaaGreatDoorGrpMathPk
import Derived.Deep.RegionHeld
import Derived.Deep.Cut
import Derived.Deep.CutRange
/- A world is drawn. -/
namespace Go.Proofs.YtiennniclkbjlaaGreatDoor.Dr
open Go.RowKit Go.Proofs.YtiennniclkbjlaaGreatDoor.EscM Go.Proofs.YtiennniclkbjlaaGreatDoor.St Go.Proofs.YtiennniclkbjlaaGreatDoor.AddrM Go.Proofs.YtiennniclkbjlaaGreatDoor.EscL Go.Proofs.YtiennniclkbjlaaGreatDoor.Ad1 Go.Proofs.YtiennniclkbjlaaGreatDoor.RR Go.Proofs.YtiennniclkbjlaaGreatDoor.LetM Go.Proofs.YtiennniclkbjlaaGreatDoor.Nm Go.Proofs.YtiennniclkbjlaaGreatDoor.GrM Go.Proofs.YtiennniclkbjlaaGreatDoor.NtM Go.Proofs.YtiennniclkbjlaaGreatDoor.Nt Go.Proofs.YtiennniclkbjlaaGreatDoor.RoPg Go.Proofs.YtiennniclkbjlaaGreatDoor.WdM

theorem Tryz.infoPgW : (Tryz.prog.info? 112).map (fun i => (i.zero, i.size, i.bytes)) = some (some (.agg #[.string ⟨#[]⟩, .string ⟨#[]⟩, .string ⟨#[]⟩, .int .i64 0]), 4, 56) := by kernel_rfl
theorem info_page : ∃ i, Tryz.prog.info? 112 = some i ∧ i.zero = some (.agg #[.string ⟨#[]⟩, .string ⟨#[]⟩, .string ⟨#[]⟩, .int .i64 0]) ∧ i.size = 4 ∧ i.bytes = 56 := by
  have h := Tryz.infoPgW
  cases hi : Tryz.prog.info? 112 with
  | none => rw [hi] at h; cases h
  | some i =>
    rw [hi] at h
    have := Option.some.inj h
    simp only [Prod.mk.injEq] at this
    exact ⟨i, rfl, this.1, this.2.1, this.2.2⟩

/-- how great a drawn page is -/
def PgBd (p : Pg) : Prop := p.addr.size ≤ 100 ∧ p.text.size ≤ 300 ∧ p.lead.size ≤ 100 ∧ 0 ≤ p.fails ∧ p.fails ≤ 10 ∧ NrT.NwT p.text
def PgsBd (L : List Pg) : Prop := ∀ p ∈ L, PgBd p
theorem PgsBd.snoc {L : List Pg} {p : Pg} (h : PgsBd L) (hp : PgBd p) : PgsBd (L ++ [p]) := by
  intro x hx
  rcases List.mem_append.1 hx with hx | hx
  · exact h x hx
  · simp at hx; subst hx; exact hp
theorem cell_four_new (w : World) (x y z u : Value) (t : TypeId) : ∀ (j : Nat) (v : Value), [x, y, z, u][j]? = some v → (w.alloc (.cells #[x, y, z, u] t)).cell? ((⟨w.heap.size, 0, none⟩ : Addr).add j) = some v := by
  intro j v hv
  have hb : (w.alloc (.cells #[x, y, z, u] t)).heap[w.heap.size]? = some (.cells #[x, y, z, u] t) := by show (w.heap.push _)[w.heap.size]? = _; simp
  rw [add_mk, Nat.zero_add]
  unfold World.cell?
  dsimp only
  rw [hb]
  simpa using hv
theorem cell_four_newE {w : World} {g : Nat} (e : w.heap.size = g) (x y z u : Value) (t : TypeId) : ∀ (j : Nat) (v : Value), [x, y, z, u][j]? = some v → (w.alloc (.cells #[x, y, z, u] t)).cell? ((⟨g, 0, none⟩ : Addr).add j) = some v := by
  subst e; exact cell_four_new w x y z u t
theorem Bx.other {t t2 : TypeId} {w w' : World} {G base k m : Nat} {C : Array Value} {v : Value} {xs : List Value} (h : Bx t w G C) (h2 : w.ownsRow base t2 k v m xs) (ht : t ≠ t2) (hg : w.grownBy w' v.ownBlock) : Bx t w' G C := by
  refine h.grown hg ?_
  intro e
  obtain ⟨c, hc⟩ := own_block_type h2 e
  unfold Bx at h
  rw [h] at hc
  injection hc with hc
  injection hc with _ ht2
  exact ht ht2
/-- what is drawn so far of a world -/
def WI (B r q : Nat) (w w1 : World) (v : Value) (L : List Pg) : Prop :=
  OwnsR FPg 112 w1 w.heap.size v L ∧ IsRd B w1 r q ∧ w.grownBy w1 (some r) ∧ w.heap.size < w1.heap.size ∧ r < w.heap.size
theorem WI.step {B r q q' : Nat} {w w1 w2 : World} {v : Value} {L : List Pg} (h : WI B r q w w1 v L) (hg : w1.grownBy w2 (some r)) (hr : IsRd B w2 r q') : WI B r q' w w2 v L := by
  obtain ⟨h1, h3, h4, h5, h6⟩ := h
  exact ⟨h1.keptR hg h6, hr, grown_trans h4 hg, by have := hg.size; omega, h6⟩
theorem WI.alloc {B r q : Nat} {w w1 : World} {v : Value} {L : List Pg} (h : WI B r q w w1 v L) (o : Obj) : WI B r q w (w1.alloc o) v L :=
  h.step (grown_alloc _ _ _) (h.2.1.alloc o)
theorem WI.below {B r q : Nat} {w w1 w2 : World} {v : Value} {L : List Pg} (h : WI B r q w w1 v L) (hb : Below w1.heap.size w1 w2) : WI B r q w w2 v L :=
  h.step (grown_of_below _ hb) (h.2.1.below hb)
theorem WI.rd {B r q : Nat} {w w1 : World} {v : Value} {L : List Pg} (h : WI B r q w w1 v L) : IsRd B w1 r q := h.2.1
theorem WI.mono {B r q q' : Nat} {w w1 : World} {v : Value} {L : List Pg} (h : WI B r q w w1 v L) (hq : q ≤ q') : WI B r q' w w1 v L := ⟨h.1, h.2.1.mono hq, h.2.2⟩
theorem WI.drew {B r q : Nat} {w w1 : World} {v : Value} {L : List Pg} (h : WI B r q w w1 v L) : WI B r q w w1.drew v L := h.below ((Below.refl _ _).drew)
/-- a struct of the call's own is written into -/
theorem WI.set {B r q : Nat} {w w1 : World} {v : Value} {L : List Pg} {G : Nat} {C : Array Value} (h : WI B r q w w1 v L) (_ : Bx 112 w1 G C) (hG : w.heap.size < G) (hne : v.ownBlock ≠ some G) (j : Nat) (y : Value) : WI B r q w (w1.setCell ⟨G, j, none⟩ y) v L := by
  obtain ⟨h1, h3, h4, h5, h6⟩ := h
  have hg : w1.grownBy (w1.setCell ⟨G, j, none⟩ y) (some G) := grown_set j y
  refine ⟨World.ownsRow.kept h1 hg ?_, h3.grownRow (base := w.heap.size) hg h6 (fun k hk => by have := Option.some.inj hk; omega), grown_past h4 hg (fun k hk => by have := Option.some.inj hk; omega), by have := hg.size; omega, h6⟩
  cases hv : v.ownBlock with
  | none => exact Or.inl rfl
  | some b => exact Or.inr (fun e => hne (by rw [hv, e]))
/-- a page more -/
theorem WI.more {B r q : Nat} {w w1 w2 : World} {v v' : Value} {L : List Pg} {p : Pg} (h : WI B r q w w1 v L) (hO : w2.ownsRow w.heap.size 112 4 v' (L.length + 1) (FPg.cells L ++ FPg.enc p)) (hg : w1.grownBy w2 v.ownBlock) : WI B r q w w2 v' (L ++ [p]) := by
  obtain ⟨h1, h3, h4, h5, h6⟩ := h
  exact ⟨OwnsR.append (F := FPg) hO, h3.grownRow (base := w.heap.size) hg h6 (OwnsR.block h1), grown_past h4 hg (OwnsR.block h1), by have := hg.size; omega, h6⟩
theorem notice_size (L : List Gr) : (ntS L).size ≤ 840 := by
  unfold ntS
  cases h : noticeB L with
  | false => show (0 : Nat) ≤ 840; omega
  | true =>
    show (ntText L).toArray.size ≤ 840
    have h1 := notice_short h
    have := text_len h1.1
    simp only [List.size_toArray]
    omega

def NtOk (t : ByteArray) : Prop := t.size ≤ 840 ∧ NrT.NwT t
theorem notice_ok (L : List Gr) : NtOk (ntS L) := ⟨notice_size L, NrT.nw_notice L⟩
theorem nw_page {t : ByteArray} (h : asciiB t = true) (hg : gapB t = true) : NrT.NwT t := by
  refine NrT.nw_one ?_ ?_
  · rw [List.all_eq_true]
    intro b hb
    have := (of_decide_eq_true (List.all_eq_true.1 h b hb)).2
    cases hq : (b == 10) with
    | false => rfl
    | true => exact absurd (by rw [eq_of_beq hq]; rfl) this
  · intro e
    unfold gapB at hg
    rw [e] at hg
    exact absurd hg (by decide)

def house4 : Array Value := #[.string ⟨#[97, 98]⟩, .string ⟨#[99, 100]⟩, .string ⟨#[101]⟩, .string ⟨#[102, 111, 120]⟩]
theorem house_at {w : World} {G : Nat} (h : Bx 9 w G house4) (k : Nat) (hk : k < 4) : ∃ s, w.cell? ⟨G, k, none⟩ = some (.string s) ∧ s.size ≤ 3 := by
  have : k = 0 ∨ k = 1 ∨ k = 2 ∨ k = 3 := by omega
  rcases this with rfl | rfl | rfl | rfl
  · exact ⟨_, h.cell 0 rfl, by decide⟩
  · exact ⟨_, h.cell 1 rfl, by decide⟩
  · exact ⟨_, h.cell 2 rfl, by decide⟩
  · exact ⟨_, h.cell 3 rfl, by decide⟩

theorem house_same {W W' : World} {G k : Nat} {v : Option Value} {C : Array Value} {t : TypeId} (h : Bx t W G C) (h' : Bx t W' G C) (hc : W.cell? ⟨G, k, none⟩ = v) : W'.cell? ⟨G, k, none⟩ = v := by
  rw [World.cell?_of_block (w := W) (h'.trans h.symm)]; exact hc
theorem house_set {W : World} {G : Nat} {p : Addr} {C : Array Value} {t : TypeId} (h : Bx t W G C) (hp : p.block ≠ G) (y : Value) : Bx t (W.setCell p y) G C := by
  unfold Bx
  rw [Below.heap_setCell _ _ _ _ (fun e => hp e.symm)]; exact h
def intsW : Array Value := #[.int .i64 0, .int .i64 0, .int .i64 0, .int .i64 1, .int .i64 2, .int .i64 5]
theorem ints_at {w : World} {G : Nat} (h : Bx 3 w G intsW) (k : Nat) (hk : k < 6) : ∃ z : Int, w.cell? ⟨G, k, none⟩ = some (.int .i64 z) ∧ 0 ≤ z ∧ z ≤ 9 := by
  have : k = 0 ∨ k = 1 ∨ k = 2 ∨ k = 3 ∨ k = 4 ∨ k = 5 := by omega
  rcases this with rfl | rfl | rfl | rfl | rfl | rfl
  · exact ⟨_, h.cell 0 rfl, by decide⟩
  · exact ⟨_, h.cell 1 rfl, by decide⟩
  · exact ⟨_, h.cell 2 rfl, by decide⟩
  · exact ⟨_, h.cell 3 rfl, by decide⟩
  · exact ⟨_, h.cell 4 rfl, by decide⟩
  · exact ⟨_, h.cell 5 rfl, by decide⟩

def ints7 : Array Value := #[.int .i64 0, .int .i64 0, .int .i64 0, .int .i64 0, .int .i64 1, .int .i64 2, .int .i64 4]
theorem ints7_at {w : World} {G : Nat} (h : Bx 3 w G ints7) (k : Nat) (hk : k < 7) : ∃ z : Int, w.cell? ⟨G, k, none⟩ = some (.int .i64 z) ∧ 0 ≤ z ∧ z ≤ 9 := by
  have : k = 0 ∨ k = 1 ∨ k = 2 ∨ k = 3 ∨ k = 4 ∨ k = 5 ∨ k = 6 := by omega
  rcases this with rfl | rfl | rfl | rfl | rfl | rfl | rfl
  · exact ⟨_, h.cell 0 rfl, by decide⟩
  · exact ⟨_, h.cell 1 rfl, by decide⟩
  · exact ⟨_, h.cell 2 rfl, by decide⟩
  · exact ⟨_, h.cell 3 rfl, by decide⟩
  · exact ⟨_, h.cell 4 rfl, by decide⟩
  · exact ⟨_, h.cell 5 rfl, by decide⟩
  · exact ⟨_, h.cell 6 rfl, by decide⟩

set_option maxRecDepth 100000 in
set_option maxHeartbeats 8000000 in
theorem world_any (B r q : Nat) (w : World) (h : IsRd B w r q) (hq : q ≤ 6000) :
    Calls Tryz.prog 69 #[.pointer (some ⟨r, 0, none⟩)] w fun e w' => ∃ (L : List Pg) (a1 : Option Addr) (c1 : Nat), e = .returned (.slice a1 L.length c1) ∧ WI B r (q + 900) w w' (.slice a1 L.length c1) L ∧ L.length ≤ 12 ∧ 1 ≤ L.length ∧ PgsBd L := by
  obtain ⟨i0, hi, hz0, hz1, hz2⟩ := info_page
  have hle := h.le
  have HR0 : Hid (IsRd B w r q) := h
  clear h
  go_enter Tryz.func69, Tryz.ntmps69
  go_wp2_with fail
  refine (houses_any _).mono ?_
  rintro e w1 ⟨rfl, e1⟩
  have HI1 : Hid (WI B r q w w1 (.slice (some ⟨w.heap.size, 0, none⟩) 0 0) []) := by
    rw [e1]
    have h0 : WI B r q w (w.alloc (.cells #[] 112)) (.slice (some ⟨w.heap.size, 0, none⟩) 0 0) [] := ⟨OwnsR.empty FPg 112 w w.heap.size (Nat.le_refl _), HR0.out.alloc _, grown_alloc _ _ _, by simp, hle.2⟩
    exact WI.alloc h0 _
  have HH1 : Hid (Bx 9 w1 (w.heap.size + 1) house4) := by
    rw [e1]
    have := Bx.new 9 (w.alloc (.cells #[] 112)) house4
    rw [show (w.alloc (.cells #[] 112)).heap.size = w.heap.size + 1 by simp] at this
    exact this
  clear e1
  have hrw := hle.2
  have hrH : r ≠ w.heap.size + 1 := by omega
  go_wp2
  go_loopg [3, 5] 4 (fun g v i wr => ∃ (k : Nat) (L : List Pg), k + g = 4 ∧ i = .int .i64 (k : Int) ∧ L.length ≤ k ∧ Hid (PgsBd L) ∧ Hid (WI B r (q + 53 * k) w wr v L) ∧ Hid (Bx 9 wr (w.heap.size + 1) house4))
  case atStart => exact ⟨0, [], by omega, rfl, by simp, (fun x hx => by cases hx), HI1, HH1⟩
  case round =>
    obtain ⟨k, L, hk, rfl, hLk, HL, HI, HH⟩ := hrel
    rcases gk with _ | g
    rotate_left
    · have hlt : k < 4 := by omega
      obtain ⟨hs, hc, hhs⟩ := house_at HH.out k hlt
      go_wp2_with fail
      refine (pick_any B r _ 2 _ HI.out.rd (by omega) (by omega) (by omega)).mono ?_
      rintro e w2 ⟨x, rfl, hx, hr2, hg2⟩
      have HI2 : Hid (WI B r (q + 53 * k + 1) w w2 u3 L) := HI.out.step hg2 hr2
      have HH2 : Hid (Bx 9 w2 (w.heap.size + 1) house4) := HH.out.grown hg2 (fun e => hrH (Option.some.inj e))
      have hc2 : w2.cell? ⟨w.heap.size + 1, k, none⟩ = some (.string hs) := by
        rw [← hc]; exact World.cell?_of_block (hg2.block _ HH.out.lt (fun e => hrH (Option.some.inj e).symm))
      clear hr2 hg2
      by_cases hx0 : x = 0
      · subst hx0
        have hi1 : (k : Int) < 4 := by omega
        have hw2 : w.heap.size < w2.heap.size := HI2.out.2.2.2.1
        have hneZ : ∀ G, w.heap.size < G → some r ≠ some G := fun G hG e => by have := Option.some.inj e; omega
        have HVT : Hid (∀ b, u3.ownBlock = some b → b < w2.heap.size) := own_lt HI2.out.1
        have hadd1 : ¬ 9223372036854775807 < 2 + hs.size := by omega
        have hadd2 : ¬ 9223372036854775807 < 2 + hs.size + 7 := by omega
        have hw2h : w.heap.size + 1 < w2.heap.size := HH2.out.lt
        have hi4 : (k : Int) < 4 := by omega
        have hi0' : (0 : Int) ≤ (k : Int) := by omega
        go_upto_region 7 with fail
        go_cut [6] from 13 to 49 (fun p wx => ∃ (G : Nat) (t : ByteArray) (z : Int), p = .pointer (some ⟨G, 0, none⟩) ∧ NtOk t ∧ 0 ≤ z ∧ z ≤ 9 ∧ Hid (Bx 112 wx G #[.string ((⟨#[47, 47]⟩ : ByteArray) ++ hs ++ (⟨#[47, 110, 111, 116, 105, 99, 101]⟩ : ByteArray)), .string t, .string ⟨#[]⟩, .int .i64 z]) ∧ Hid (WI B r (q + 53 * k + 1 + 44 + 1) w wx u3 L) ∧ Hid (Bx 9 wx (w.heap.size + 1) house4) ∧ w.heap.size < G ∧ ∀ b, u3.ownBlock = some b → b ≠ G)
        case first =>
          have hcD : w2.drew.cell? ⟨w.heap.size + 1, k, none⟩ = some (.string hs) := hc2
          refine wp_region_held_drew (S := (fun w' => w'.cell? ⟨w.heap.size + 1, k, none⟩ = some (.string hs))) (by kernel_rfl) hcD (fun hHeld => ?_)
          obtain ⟨W0, hW0⟩ : ∃ W, W = w2.drew := ⟨_, rfl⟩
          rw [← hW0] at hHeld ⊢
          have HI0 : Hid (WI B r (q + 53 * k + 1) w W0 u3 L) := by rw [hW0]; exact HI2.out.drew
          have HH0 : Hid (Bx 9 W0 (w.heap.size + 1) house4) := by rw [hW0]; exact HH2.out
          have hc0 : W0.cell? ⟨w.heap.size + 1, k, none⟩ = some (.string hs) := by rw [hW0]; exact hcD
          have hl0 : w2.heap.size ≤ W0.heap.size := by rw [hW0]; exact Nat.le_refl _
          clear hW0 hcD HI2 HH2 hc2
          refine wpAnyH_take (i := 0) (oi := ({ dst := some 20, op := Go.Op.move (Go.Operand.tmp 4), type := 23, pos := "l71_draw.go:277", after := #[], guard := none } : Oper)) (v := ?_) rfl (by kernel_rfl) (by kernel_rfl) (by kernel_rfl) (fun _ _ _ h => h) (Or.inl ⟨by rfl, ?_⟩) hHeld ?_
          rotate_left
          · (intro w hSw; (try dsimp only at hSw); go_simp; try with_reducible rfl)
          try simp only [Act.put, List.setIfInBounds_toArray, List.set_cons_zero, List.set_cons_succ]
          refine wpAnyH_take (i := 1) (oi := ({ dst := some 21, op := Go.Op.move (Go.Operand.tmp 5), type := 3, pos := "l71_draw.go:277", after := #[], guard := none } : Oper)) (v := ?_) rfl (by kernel_rfl) (by kernel_rfl) (by kernel_rfl) (fun _ _ _ h => h) (Or.inl ⟨by rfl, ?_⟩) hHeld ?_
          rotate_left
          · (intro w hSw; (try dsimp only at hSw); go_simp; try with_reducible rfl)
          try simp only [Act.put, List.setIfInBounds_toArray, List.set_cons_zero, List.set_cons_succ]
          refine wpAnyH_take (i := 2) (oi := ({ dst := some 22, op := Go.Op.indexAddr 23 (Go.Operand.tmp 20) (Go.Operand.tmp 21), type := 0, pos := "l71_draw.go:277", after := #[{ on := 0, ground := Go.Ground.data }, { on := 1, ground := Go.Ground.data }], guard := none } : Oper)) (v := ?_) rfl (by kernel_rfl) (by kernel_rfl) (by kernel_rfl) (fun _ _ _ h => h) (Or.inl ⟨by rfl, ?_⟩) hHeld ?_
          rotate_left
          · (intro w hSw; (try dsimp only at hSw); go_simp; try with_reducible rfl)
          try simp only [Act.put, List.setIfInBounds_toArray, List.set_cons_zero, List.set_cons_succ]
          refine wpAnyH_take (i := 3) (oi := ({ dst := some 23, op := Go.Op.load 9 (Go.Operand.tmp 22), type := 9, pos := "l71_draw.go:277", after := #[{ on := 2, ground := Go.Ground.data }], guard := none } : Oper)) (v := ?_) rfl (by kernel_rfl) (by kernel_rfl) (by kernel_rfl) (fun _ _ _ h => h) (Or.inl ⟨by rfl, ?_⟩) hHeld ?_
          rotate_left
          · (intro w hSw; (try dsimp only at hSw); go_simp; try with_reducible rfl)
          try simp only [Act.put, List.setIfInBounds_toArray, List.set_cons_zero, List.set_cons_succ]
          refine wpAnyH_take (i := 4) (oi := ({ dst := some 24, op := Go.Op.binOp Go.BinOp.add 9 (Go.Operand.const (Go.Value.string { data := #[47, 47] })) (Go.Operand.tmp 23) 9, type := 9, pos := "l71_draw.go:277", after := #[{ on := 3, ground := Go.Ground.data }], guard := none } : Oper)) (v := ?_) rfl (by kernel_rfl) (by kernel_rfl) (by kernel_rfl) (fun _ _ _ h => h) (Or.inl ⟨by rfl, ?_⟩) hHeld ?_
          rotate_left
          · (intro w hSw; (try dsimp only at hSw); go_simp; try with_reducible rfl)
          try simp only [Act.put, List.setIfInBounds_toArray, List.set_cons_zero, List.set_cons_succ]
          refine wpAnyH_take (i := 5) (oi := ({ dst := some 25, op := Go.Op.binOp Go.BinOp.add 9 (Go.Operand.tmp 24) (Go.Operand.const (Go.Value.string { data := #[47, 110, 111, 116, 105, 99, 101] })) 9, type := 9, pos := "l71_draw.go:277", after := #[{ on := 4, ground := Go.Ground.data }], guard := none } : Oper)) (v := ?_) rfl (by kernel_rfl) (by kernel_rfl) (by kernel_rfl) (fun _ _ _ h => h) (Or.inl ⟨by rfl, ?_⟩) hHeld ?_
          rotate_left
          · (intro w hSw; (try dsimp only at hSw); go_simp; try with_reducible rfl)
          try simp only [Act.put, List.setIfInBounds_toArray, List.set_cons_zero, List.set_cons_succ]
          refine wpAnyH_take (i := 6) (oi := ({ dst := some 26, op := Go.Op.move (Go.Operand.tmp 0), type := 59, pos := "l71_draw.go:277", after := #[], guard := none } : Oper)) (v := ?_) rfl (by kernel_rfl) (by kernel_rfl) (by kernel_rfl) (fun _ _ _ h => h) (Or.inl ⟨by rfl, ?_⟩) hHeld ?_
          rotate_left
          · (intro w hSw; (try dsimp only at hSw); go_simp; try with_reducible rfl)
          try simp only [Act.put, List.setIfInBounds_toArray, List.set_cons_zero, List.set_cons_succ]
          refine wpAnyH_take (i := 10) (oi := ({ dst := some 30, op := Go.Op.move (Go.Operand.tmp 0), type := 59, pos := "l71_draw.go:277", after := #[], guard := none } : Oper)) (v := ?_) rfl (by kernel_rfl) (by kernel_rfl) (by kernel_rfl) (fun _ _ _ h => h) (Or.inl ⟨by rfl, ?_⟩) hHeld ?_
          rotate_left
          · (intro w hSw; (try dsimp only at hSw); go_simp; try with_reducible rfl)
          try simp only [Act.put, List.setIfInBounds_toArray, List.set_cons_zero, List.set_cons_succ]
          refine wpAnyH_ready (rs := [7, 9, 15]) (by kernel_rfl) (by simp) ?_
          refine AllReadyH.cons rfl (fun K hK => ?_) ?_
          · go_simp
            refine (groups_any B r (q + 53 * k + 1) _ HI0.out.rd (by omega)).mono ?_
            rintro e W1 ⟨Lg, a3, c3, rfl, hGI, hAp, hlg, hbg⟩
            have HI1 : Hid (WI B r (q + 53 * k + 1 + 44) w W1 u3 L) := HI0.out.step hGI.2.2.2.1 hGI.2.2.1
            have HH1 : Hid (Bx 9 W1 (w.heap.size + 1) house4) := HH0.out.grown hGI.2.2.2.1 (fun e => hrH (Option.some.inj e))
            have hc1 : W1.cell? ⟨w.heap.size + 1, k, none⟩ = some (.string hs) := house_same HH0.out HH1.out hc0
            have HG1 : Hid (IsRows FGr W1 a3 c3 Lg ∧ GrsAt W1 Lg) := ⟨OwnsR.rowsOf hGI.1, hGI.2.1.at⟩
            have HBG : Hid (∀ g ∈ Lg, GrBd g) := hbg
            have hl1 : w2.heap.size ≤ W1.heap.size := Nat.le_trans hl0 hGI.2.2.2.1.size
            clear hGI hAp hbg
            refine hK.out _ _ ?_ (fun hHeld => ?_)
            · exact hc1
            clear hK K
            try simp only [Act.put, List.setIfInBounds_toArray, List.set_cons_zero, List.set_cons_succ]
            refine wpAnyH_ready (rs := [8, 9, 15]) (by kernel_rfl) (by simp) ?_
            refine AllReadyH.cons rfl (fun K hK => ?_) ?_
            · go_simp
              refine (specNText_any a3 c3 Lg _ HG1.out.1 HG1.out.2 (fun g hg => (HBG.out g hg).sz) (by omega)).mono ?_
              rintro e W2 ⟨rfl, hb4⟩
              have hns := notice_ok Lg
              have HI2 : Hid (WI B r (q + 53 * k + 1 + 44) w W2 u3 L) := HI1.out.below hb4
              have HH2 : Hid (Bx 9 W2 (w.heap.size + 1) house4) := HH1.out.keep (fun k hk => hb4.block k hk)
              have hc2 : W2.cell? ⟨w.heap.size + 1, k, none⟩ = some (.string hs) := house_same HH1.out HH2.out hc1
              have hl2 : w2.heap.size ≤ W2.heap.size := Nat.le_trans hl1 hb4.size
              clear hb4
              generalize ntS Lg = nt at *
              refine hK.out _ _ ?_ (fun hHeld => ?_)
              · exact hc2
              clear hK K
              try simp only [Act.put, List.setIfInBounds_toArray, List.set_cons_zero, List.set_cons_succ]
              refine wpAnyH_ready (rs := [9, 11, 15]) (by kernel_rfl) (by simp) ?_
              refine AllReadyH.cons rfl (fun K hK => ?_) ?_
              · go_simp
                obtain ⟨W3, hW3⟩ : ∃ W, W = W2.alloc (.cells #[.int .i64 0, .int .i64 0, .int .i64 0, .int .i64 1, .int .i64 2, .int .i64 5] 3) := ⟨_, rfl⟩
                rw [← hW3]
                have HI3 : Hid (WI B r (q + 53 * k + 1 + 44) w W3 u3 L) := by rw [hW3]; exact HI2.out.alloc _
                have HH3 : Hid (Bx 9 W3 (w.heap.size + 1) house4) := by rw [hW3]; exact HH2.out.alloc _
                have hc3 : W3.cell? ⟨w.heap.size + 1, k, none⟩ = some (.string hs) := house_same HH2.out HH3.out hc2
                have hl3 : w2.heap.size ≤ W3.heap.size := by rw [hW3]; simp; omega
                have hb2 : w.heap.size < W2.heap.size := Nat.lt_of_lt_of_le hw2 hl2
                have HZ3 : Hid (Bx 3 W3 W2.heap.size intsW) := by rw [hW3]; exact Bx.new _ _ _
                clear hW3
                refine hK.out _ _ ?_ (fun hHeld => ?_)
                · exact hc3
                clear hK K
                try simp only [Act.put, List.setIfInBounds_toArray, List.set_cons_zero, List.set_cons_succ]
                refine wpAnyH_ready (rs := [11, 15]) (by kernel_rfl) (by simp) ?_
                refine AllReadyH.cons rfl (fun K hK => ?_) ?_
                · go_simp
                  refine (pick_any B r (q + 53 * k + 1 + 44) 6 _ HI3.out.rd (by omega) (by omega) (by omega)).mono ?_
                  rintro e W4 ⟨x6, rfl, hx6, hr5, hg5⟩
                  have HI4 : Hid (WI B r (q + 53 * k + 1 + 44 + 1) w W4 u3 L) := HI3.out.step hg5 hr5
                  have HH4 : Hid (Bx 9 W4 (w.heap.size + 1) house4) := HH3.out.grown hg5 (fun e => hrH (Option.some.inj e))
                  have hc4 : W4.cell? ⟨w.heap.size + 1, k, none⟩ = some (.string hs) := house_same HH3.out HH4.out hc3
                  have HZ4 : Hid (Bx 3 W4 W2.heap.size intsW) := HZ3.out.grown hg5 (hneZ _ hb2)
                  have hl4 : w2.heap.size ≤ W4.heap.size := Nat.le_trans hl3 hg5.size
                  clear hr5 hg5
                  have hx6i : (x6 : Int) < 6 := by omega
                  have hx6z : (0 : Int) ≤ (x6 : Int) := by omega
                  refine hK.out _ _ ?_ (fun hHeld => ?_)
                  · exact hc4
                  clear hK K
                  try simp only [Act.put, List.setIfInBounds_toArray, List.set_cons_zero, List.set_cons_succ]
                  refine wpAnyH_take (i := 12) (oi := ({ dst := some 32, op := Go.Op.indexAddr 51 (Go.Operand.tmp 29) (Go.Operand.tmp 31), type := 0, pos := "l71_draw.go:277", after := #[{ on := 9, ground := Go.Ground.data }, { on := 11, ground := Go.Ground.data }], guard := none } : Oper)) (v := ?_) rfl (by kernel_rfl) (by kernel_rfl) (by kernel_rfl) (fun _ _ _ h => h) (Or.inl ⟨by rfl, ?_⟩) hHeld ?_
                  rotate_left
                  · (intro w hSw; (try dsimp only at hSw); go_simp; try with_reducible rfl)
                  try simp only [Act.put, List.setIfInBounds_toArray, List.set_cons_zero, List.set_cons_succ]
                  refine wpAnyH_ready (rs := [13, 15]) (by kernel_rfl) (by simp) ?_
                  refine AllReadyH.cons rfl (fun K hK => ?_) ?_
                  · obtain ⟨z, hz, hz0, hz9⟩ := ints_at HZ4.out x6 (by omega)
                    go_simp
                    refine hK.out _ _ ?_ (fun hHeld => ?_)
                    · exact hc4
                    clear hK K
                    try simp only [Act.put, List.setIfInBounds_toArray, List.set_cons_zero, List.set_cons_succ]
                    refine wpAnyH_take (i := 14) (oi := ({ dst := some 34, op := Go.Op.build 112 #[(0, Go.Operand.tmp 25), (1, Go.Operand.tmp 28), (3, Go.Operand.tmp 33)], type := 112, pos := "l71_draw.go:277", after := #[{ on := 5, ground := Go.Ground.data }, { on := 8, ground := Go.Ground.data }, { on := 13, ground := Go.Ground.data }], guard := none } : Oper)) (v := ?_) rfl (by kernel_rfl) (by kernel_rfl) (by kernel_rfl) (fun _ _ _ h => h) (Or.inl ⟨by rfl, ?_⟩) hHeld ?_
                    rotate_left
                    · (intro w hSw; (try dsimp only at hSw); go_simp; try with_reducible rfl)
                    try simp only [Act.put, List.setIfInBounds_toArray, List.set_cons_zero, List.set_cons_succ]
                    refine wpAnyH_ready (rs := [15]) (by kernel_rfl) (by simp) ?_
                    refine AllReadyH.cons rfl (fun K hK => ?_) ?_
                    · go_simp
                      obtain ⟨W5, hW5⟩ : ∃ W, W = W4.alloc (.cells #[.string ⟨#[]⟩, .string ⟨#[]⟩, .string ⟨#[]⟩, .int .i64 0] 112) := ⟨_, rfl⟩
                      rw [← hW5]
                      have HI5 : Hid (WI B r (q + 53 * k + 1 + 44 + 1) w W5 u3 L) := by rw [hW5]; exact HI4.out.alloc _
                      have HH5 : Hid (Bx 9 W5 (w.heap.size + 1) house4) := by rw [hW5]; exact HH4.out.alloc _
                      have hc5 : W5.cell? ⟨w.heap.size + 1, k, none⟩ = some (.string hs) := house_same HH4.out HH5.out hc4
                      have hl5 : w2.heap.size ≤ W5.heap.size := by rw [hW5]; simp; omega
                      have hb4 : w.heap.size < W4.heap.size := Nat.lt_of_lt_of_le hw2 hl4
                      have HZ5 : Hid (Bx 3 W5 W2.heap.size intsW) := by rw [hW5]; exact HZ4.out.alloc _
                      have HX5 : Hid (Bx 112 W5 W4.heap.size #[.string ⟨#[]⟩, .string ⟨#[]⟩, .string ⟨#[]⟩, .int .i64 0]) := by rw [hW5]; exact Bx.new _ _ _
                      have hv4 : u3.ownBlock ≠ some W4.heap.size := fun e => by have := HVT.out _ e; omega
                      have hne4 : ∀ j : Nat, (⟨W4.heap.size, j, none⟩ : Addr).block ≠ w.heap.size + 1 := fun j e => by have e' : W4.heap.size = w.heap.size + 1 := e; omega
                      clear hW5
                      refine hK.out _ _ ?_ (fun hHeld => ?_)
                      · exact hc5
                      clear hK K
                      try simp only [Act.put, List.setIfInBounds_toArray, List.set_cons_zero, List.set_cons_succ]
                      refine wpAnyH_ready (rs := [16]) (by kernel_rfl) (by simp) ?_
                      refine AllReadyH.cons rfl (fun K hK => ?_) ?_
                      · have p0 := HX5.out.cell 0 rfl
                        have p1 := HX5.out.cell 1 rfl
                        have p2 := HX5.out.cell 2 rfl
                        have p3 := HX5.out.cell 3 rfl
                        have pf := HX5.out.free
                        go_simp
                        refine hK.out _ _ ?_ (fun hHeld => ?_)
                        · exact house_same HH5.out (house_set (house_set (house_set (house_set HH5.out (hne4 0) _) (hne4 1) _) (hne4 2) _) (hne4 3) _) hc5
                        clear hK K
                        try simp only [Act.put, List.setIfInBounds_toArray, List.set_cons_zero, List.set_cons_succ]
                        refine wpAnyH_done (by kernel_rfl) ?_ _
                        go_wp2_with fail
                        go_meet
                        refine ⟨W4.heap.size, nt, z, rfl, hns, hz0, hz9, ?_, ?_, ?_, hb4, fun b hb e => by have := HVT.out b hb; have := hl4; omega⟩
                        · exact (((HX5.out.set 0 _).set 1 _).set 2 _).set 3 _
                        · exact (((HI5.out.set HX5.out hb4 hv4 0 _).set (HX5.out.set 0 _) hb4 hv4 1 _).set ((HX5.out.set 0 _).set 1 _) hb4 hv4 2 _).set (((HX5.out.set 0 _).set 1 _).set 2 _) hb4 hv4 3 _
                        · exact house_set (house_set (house_set (house_set HH5.out (hne4 0) _) (hne4 1) _) (hne4 2) _) (hne4 3) _
                      exact AllReadyH.nil
                    exact AllReadyH.nil
                  refine AllReadyH.cons rfl (fun K hK => ?_) ?_
                  · go_simp
                    obtain ⟨W6, hW6⟩ : ∃ W, W = W4.alloc (.cells #[.string ⟨#[]⟩, .string ⟨#[]⟩, .string ⟨#[]⟩, .int .i64 0] 112) := ⟨_, rfl⟩
                    rw [← hW6]
                    have HI6 : Hid (WI B r (q + 53 * k + 1 + 44 + 1) w W6 u3 L) := by rw [hW6]; exact HI4.out.alloc _
                    have HH6 : Hid (Bx 9 W6 (w.heap.size + 1) house4) := by rw [hW6]; exact HH4.out.alloc _
                    have hc6 : W6.cell? ⟨w.heap.size + 1, k, none⟩ = some (.string hs) := house_same HH4.out HH6.out hc4
                    have hl6 : w2.heap.size ≤ W6.heap.size := by rw [hW6]; simp; omega
                    have hb4 : w.heap.size < W4.heap.size := Nat.lt_of_lt_of_le hw2 hl4
                    have HZ6 : Hid (Bx 3 W6 W2.heap.size intsW) := by rw [hW6]; exact HZ4.out.alloc _
                    have HX6 : Hid (Bx 112 W6 W4.heap.size #[.string ⟨#[]⟩, .string ⟨#[]⟩, .string ⟨#[]⟩, .int .i64 0]) := by rw [hW6]; exact Bx.new _ _ _
                    have hv4 : u3.ownBlock ≠ some W4.heap.size := fun e => by have := HVT.out _ e; omega
                    have hne4 : ∀ j : Nat, (⟨W4.heap.size, j, none⟩ : Addr).block ≠ w.heap.size + 1 := fun j e => by have e' : W4.heap.size = w.heap.size + 1 := e; omega
                    clear hW6
                    refine hK.out _ _ ?_ (fun hHeld => ?_)
                    · exact hc6
                    clear hK K
                    try simp only [Act.put, List.setIfInBounds_toArray, List.set_cons_zero, List.set_cons_succ]
                    refine wpAnyH_ready (rs := [13]) (by kernel_rfl) (by simp) ?_
                    refine AllReadyH.cons rfl (fun K hK => ?_) ?_
                    · obtain ⟨z, hz, hz0, hz9⟩ := ints_at HZ6.out x6 (by omega)
                      go_simp
                      refine hK.out _ _ ?_ (fun hHeld => ?_)
                      · exact hc6
                      clear hK K
                      try simp only [Act.put, List.setIfInBounds_toArray, List.set_cons_zero, List.set_cons_succ]
                      refine wpAnyH_take (i := 14) (oi := ({ dst := some 34, op := Go.Op.build 112 #[(0, Go.Operand.tmp 25), (1, Go.Operand.tmp 28), (3, Go.Operand.tmp 33)], type := 112, pos := "l71_draw.go:277", after := #[{ on := 5, ground := Go.Ground.data }, { on := 8, ground := Go.Ground.data }, { on := 13, ground := Go.Ground.data }], guard := none } : Oper)) (v := ?_) rfl (by kernel_rfl) (by kernel_rfl) (by kernel_rfl) (fun _ _ _ h => h) (Or.inl ⟨by rfl, ?_⟩) hHeld ?_
                      rotate_left
                      · (intro w hSw; (try dsimp only at hSw); go_simp; try with_reducible rfl)
                      try simp only [Act.put, List.setIfInBounds_toArray, List.set_cons_zero, List.set_cons_succ]
                      refine wpAnyH_ready (rs := [16]) (by kernel_rfl) (by simp) ?_
                      refine AllReadyH.cons rfl (fun K hK => ?_) ?_
                      · have p0 := HX6.out.cell 0 rfl
                        have p1 := HX6.out.cell 1 rfl
                        have p2 := HX6.out.cell 2 rfl
                        have p3 := HX6.out.cell 3 rfl
                        have pf := HX6.out.free
                        go_simp
                        refine hK.out _ _ ?_ (fun hHeld => ?_)
                        · exact house_same HH6.out (house_set (house_set (house_set (house_set HH6.out (hne4 0) _) (hne4 1) _) (hne4 2) _) (hne4 3) _) hc6
                        clear hK K
                        try simp only [Act.put, List.setIfInBounds_toArray, List.set_cons_zero, List.set_cons_succ]
                        refine wpAnyH_done (by kernel_rfl) ?_ _
                        go_wp2_with fail
                        go_meet
                        refine ⟨W4.heap.size, nt, z, rfl, hns, hz0, hz9, ?_, ?_, ?_, hb4, fun b hb e => by have := HVT.out b hb; have := hl4; omega⟩
                        · exact (((HX6.out.set 0 _).set 1 _).set 2 _).set 3 _
                        · exact (((HI6.out.set HX6.out hb4 hv4 0 _).set (HX6.out.set 0 _) hb4 hv4 1 _).set ((HX6.out.set 0 _).set 1 _) hb4 hv4 2 _).set (((HX6.out.set 0 _).set 1 _).set 2 _) hb4 hv4 3 _
                        · exact house_set (house_set (house_set (house_set HH6.out (hne4 0) _) (hne4 1) _) (hne4 2) _) (hne4 3) _
                      exact AllReadyH.nil
                    exact AllReadyH.nil
                  exact AllReadyH.nil
                refine AllReadyH.cons rfl (fun K hK => ?_) ?_
                · go_simp
                  obtain ⟨W7, hW7⟩ : ∃ W, W = W3.alloc (.cells #[.string ⟨#[]⟩, .string ⟨#[]⟩, .string ⟨#[]⟩, .int .i64 0] 112) := ⟨_, rfl⟩
                  rw [← hW7]
                  have HI7 : Hid (WI B r (q + 53 * k + 1 + 44) w W7 u3 L) := by rw [hW7]; exact HI3.out.alloc _
                  have HH7 : Hid (Bx 9 W7 (w.heap.size + 1) house4) := by rw [hW7]; exact HH3.out.alloc _
                  have hc7 : W7.cell? ⟨w.heap.size + 1, k, none⟩ = some (.string hs) := house_same HH3.out HH7.out hc3
                  have hl7 : w2.heap.size ≤ W7.heap.size := by rw [hW7]; simp; omega
                  have hb3 : w.heap.size < W3.heap.size := Nat.lt_of_lt_of_le hw2 hl3
                  have HZ7 : Hid (Bx 3 W7 W2.heap.size intsW) := by rw [hW7]; exact HZ3.out.alloc _
                  have HX7 : Hid (Bx 112 W7 W3.heap.size #[.string ⟨#[]⟩, .string ⟨#[]⟩, .string ⟨#[]⟩, .int .i64 0]) := by rw [hW7]; exact Bx.new _ _ _
                  have hv3 : u3.ownBlock ≠ some W3.heap.size := fun e => by have := HVT.out _ e; omega
                  have hne3 : ∀ j : Nat, (⟨W3.heap.size, j, none⟩ : Addr).block ≠ w.heap.size + 1 := fun j e => by have e' : W3.heap.size = w.heap.size + 1 := e; omega
                  clear hW7
                  refine hK.out _ _ ?_ (fun hHeld => ?_)
                  · exact hc7
                  clear hK K
                  try simp only [Act.put, List.setIfInBounds_toArray, List.set_cons_zero, List.set_cons_succ]
                  refine wpAnyH_ready (rs := [11]) (by kernel_rfl) (by simp) ?_
                  refine AllReadyH.cons rfl (fun K hK => ?_) ?_
                  · go_simp
                    refine (pick_any B r (q + 53 * k + 1 + 44) 6 _ HI7.out.rd (by omega) (by omega) (by omega)).mono ?_
                    rintro e W8 ⟨x6, rfl, hx6, hr5, hg5⟩
                    have HI8 : Hid (WI B r (q + 53 * k + 1 + 44 + 1) w W8 u3 L) := HI7.out.step hg5 hr5
                    have HH8 : Hid (Bx 9 W8 (w.heap.size + 1) house4) := HH7.out.grown hg5 (fun e => hrH (Option.some.inj e))
                    have hc8 : W8.cell? ⟨w.heap.size + 1, k, none⟩ = some (.string hs) := house_same HH7.out HH8.out hc7
                    have HZ8 : Hid (Bx 3 W8 W2.heap.size intsW) := HZ7.out.grown hg5 (hneZ _ hb2)
                    have HX8 : Hid (Bx 112 W8 W3.heap.size #[.string ⟨#[]⟩, .string ⟨#[]⟩, .string ⟨#[]⟩, .int .i64 0]) := HX7.out.grown hg5 (hneZ _ hb3)
                    have hl8 : w2.heap.size ≤ W8.heap.size := Nat.le_trans hl7 hg5.size
                    clear hr5 hg5
                    have hx6i : (x6 : Int) < 6 := by omega
                    have hx6z : (0 : Int) ≤ (x6 : Int) := by omega
                    refine hK.out _ _ ?_ (fun hHeld => ?_)
                    · exact hc8
                    clear hK K
                    try simp only [Act.put, List.setIfInBounds_toArray, List.set_cons_zero, List.set_cons_succ]
                    refine wpAnyH_take (i := 12) (oi := ({ dst := some 32, op := Go.Op.indexAddr 51 (Go.Operand.tmp 29) (Go.Operand.tmp 31), type := 0, pos := "l71_draw.go:277", after := #[{ on := 9, ground := Go.Ground.data }, { on := 11, ground := Go.Ground.data }], guard := none } : Oper)) (v := ?_) rfl (by kernel_rfl) (by kernel_rfl) (by kernel_rfl) (fun _ _ _ h => h) (Or.inl ⟨by rfl, ?_⟩) hHeld ?_
                    rotate_left
                    · (intro w hSw; (try dsimp only at hSw); go_simp; try with_reducible rfl)
                    try simp only [Act.put, List.setIfInBounds_toArray, List.set_cons_zero, List.set_cons_succ]
                    refine wpAnyH_ready (rs := [13]) (by kernel_rfl) (by simp) ?_
                    refine AllReadyH.cons rfl (fun K hK => ?_) ?_
                    · obtain ⟨z, hz, hz0, hz9⟩ := ints_at HZ8.out x6 (by omega)
                      go_simp
                      refine hK.out _ _ ?_ (fun hHeld => ?_)
                      · exact hc8
                      clear hK K
                      try simp only [Act.put, List.setIfInBounds_toArray, List.set_cons_zero, List.set_cons_succ]
                      refine wpAnyH_take (i := 14) (oi := ({ dst := some 34, op := Go.Op.build 112 #[(0, Go.Operand.tmp 25), (1, Go.Operand.tmp 28), (3, Go.Operand.tmp 33)], type := 112, pos := "l71_draw.go:277", after := #[{ on := 5, ground := Go.Ground.data }, { on := 8, ground := Go.Ground.data }, { on := 13, ground := Go.Ground.data }], guard := none } : Oper)) (v := ?_) rfl (by kernel_rfl) (by kernel_rfl) (by kernel_rfl) (fun _ _ _ h => h) (Or.inl ⟨by rfl, ?_⟩) hHeld ?_
                      rotate_left
                      · (intro w hSw; (try dsimp only at hSw); go_simp; try with_reducible rfl)
                      try simp only [Act.put, List.setIfInBounds_toArray, List.set_cons_zero, List.set_cons_succ]
                      refine wpAnyH_ready (rs := [16]) (by kernel_rfl) (by simp) ?_
                      refine AllReadyH.cons rfl (fun K hK => ?_) ?_
                      · have p0 := HX8.out.cell 0 rfl
                        have p1 := HX8.out.cell 1 rfl
                        have p2 := HX8.out.cell 2 rfl
                        have p3 := HX8.out.cell 3 rfl
                        have pf := HX8.out.free
                        go_simp
                        refine hK.out _ _ ?_ (fun hHeld => ?_)
                        · exact house_same HH8.out (house_set (house_set (house_set (house_set HH8.out (hne3 0) _) (hne3 1) _) (hne3 2) _) (hne3 3) _) hc8
                        clear hK K
                        try simp only [Act.put, List.setIfInBounds_toArray, List.set_cons_zero, List.set_cons_succ]
                        refine wpAnyH_done (by kernel_rfl) ?_ _
                        go_wp2_with fail
                        go_meet
                        refine ⟨W3.heap.size, nt, z, rfl, hns, hz0, hz9, ?_, ?_, ?_, hb3, fun b hb e => by have := HVT.out b hb; have := hl3; omega⟩
                        · exact (((HX8.out.set 0 _).set 1 _).set 2 _).set 3 _
                        · exact (((HI8.out.set HX8.out hb3 hv3 0 _).set (HX8.out.set 0 _) hb3 hv3 1 _).set ((HX8.out.set 0 _).set 1 _) hb3 hv3 2 _).set (((HX8.out.set 0 _).set 1 _).set 2 _) hb3 hv3 3 _
                        · exact house_set (house_set (house_set (house_set HH8.out (hne3 0) _) (hne3 1) _) (hne3 2) _) (hne3 3) _
                      exact AllReadyH.nil
                    exact AllReadyH.nil
                  exact AllReadyH.nil
                exact AllReadyH.nil
              refine AllReadyH.cons rfl (fun K hK => ?_) ?_
              · go_simp
                refine (pick_any B r (q + 53 * k + 1 + 44) 6 _ HI2.out.rd (by omega) (by omega) (by omega)).mono ?_
                rintro e W9 ⟨x6, rfl, hx6, hr5, hg5⟩
                have HI9 : Hid (WI B r (q + 53 * k + 1 + 44 + 1) w W9 u3 L) := HI2.out.step hg5 hr5
                have HH9 : Hid (Bx 9 W9 (w.heap.size + 1) house4) := HH2.out.grown hg5 (fun e => hrH (Option.some.inj e))
                have hc9 : W9.cell? ⟨w.heap.size + 1, k, none⟩ = some (.string hs) := house_same HH2.out HH9.out hc2
                have hl9 : w2.heap.size ≤ W9.heap.size := Nat.le_trans hl2 hg5.size
                clear hr5 hg5
                have hx6i : (x6 : Int) < 6 := by omega
                have hx6z : (0 : Int) ≤ (x6 : Int) := by omega
                refine hK.out _ _ ?_ (fun hHeld => ?_)
                · exact hc9
                clear hK K
                try simp only [Act.put, List.setIfInBounds_toArray, List.set_cons_zero, List.set_cons_succ]
                refine wpAnyH_ready (rs := [9, 15]) (by kernel_rfl) (by simp) ?_
                refine AllReadyH.cons rfl (fun K hK => ?_) ?_
                · go_simp
                  obtain ⟨W10, hW10⟩ : ∃ W, W = W9.alloc (.cells #[.int .i64 0, .int .i64 0, .int .i64 0, .int .i64 1, .int .i64 2, .int .i64 5] 3) := ⟨_, rfl⟩
                  rw [← hW10]
                  have HI10 : Hid (WI B r (q + 53 * k + 1 + 44 + 1) w W10 u3 L) := by rw [hW10]; exact HI9.out.alloc _
                  have HH10 : Hid (Bx 9 W10 (w.heap.size + 1) house4) := by rw [hW10]; exact HH9.out.alloc _
                  have hc10 : W10.cell? ⟨w.heap.size + 1, k, none⟩ = some (.string hs) := house_same HH9.out HH10.out hc9
                  have hl10 : w2.heap.size ≤ W10.heap.size := by rw [hW10]; simp; omega
                  have hb9 : w.heap.size < W9.heap.size := Nat.lt_of_lt_of_le hw2 hl9
                  have HZ10 : Hid (Bx 3 W10 W9.heap.size intsW) := by rw [hW10]; exact Bx.new _ _ _
                  clear hW10
                  refine hK.out _ _ ?_ (fun hHeld => ?_)
                  · exact hc10
                  clear hK K
                  try simp only [Act.put, List.setIfInBounds_toArray, List.set_cons_zero, List.set_cons_succ]
                  refine wpAnyH_take (i := 12) (oi := ({ dst := some 32, op := Go.Op.indexAddr 51 (Go.Operand.tmp 29) (Go.Operand.tmp 31), type := 0, pos := "l71_draw.go:277", after := #[{ on := 9, ground := Go.Ground.data }, { on := 11, ground := Go.Ground.data }], guard := none } : Oper)) (v := ?_) rfl (by kernel_rfl) (by kernel_rfl) (by kernel_rfl) (fun _ _ _ h => h) (Or.inl ⟨by rfl, ?_⟩) hHeld ?_
                  rotate_left
                  · (intro w hSw; (try dsimp only at hSw); go_simp; try with_reducible rfl)
                  try simp only [Act.put, List.setIfInBounds_toArray, List.set_cons_zero, List.set_cons_succ]
                  refine wpAnyH_ready (rs := [13, 15]) (by kernel_rfl) (by simp) ?_
                  refine AllReadyH.cons rfl (fun K hK => ?_) ?_
                  · obtain ⟨z, hz, hz0, hz9⟩ := ints_at HZ10.out x6 (by omega)
                    go_simp
                    refine hK.out _ _ ?_ (fun hHeld => ?_)
                    · exact hc10
                    clear hK K
                    try simp only [Act.put, List.setIfInBounds_toArray, List.set_cons_zero, List.set_cons_succ]
                    refine wpAnyH_take (i := 14) (oi := ({ dst := some 34, op := Go.Op.build 112 #[(0, Go.Operand.tmp 25), (1, Go.Operand.tmp 28), (3, Go.Operand.tmp 33)], type := 112, pos := "l71_draw.go:277", after := #[{ on := 5, ground := Go.Ground.data }, { on := 8, ground := Go.Ground.data }, { on := 13, ground := Go.Ground.data }], guard := none } : Oper)) (v := ?_) rfl (by kernel_rfl) (by kernel_rfl) (by kernel_rfl) (fun _ _ _ h => h) (Or.inl ⟨by rfl, ?_⟩) hHeld ?_
                    rotate_left
                    · (intro w hSw; (try dsimp only at hSw); go_simp; try with_reducible rfl)
                    try simp only [Act.put, List.setIfInBounds_toArray, List.set_cons_zero, List.set_cons_succ]
                    refine wpAnyH_ready (rs := [15]) (by kernel_rfl) (by simp) ?_
                    refine AllReadyH.cons rfl (fun K hK => ?_) ?_
                    · go_simp
                      obtain ⟨W11, hW11⟩ : ∃ W, W = W10.alloc (.cells #[.string ⟨#[]⟩, .string ⟨#[]⟩, .string ⟨#[]⟩, .int .i64 0] 112) := ⟨_, rfl⟩
                      rw [← hW11]
                      have HI11 : Hid (WI B r (q + 53 * k + 1 + 44 + 1) w W11 u3 L) := by rw [hW11]; exact HI10.out.alloc _
                      have HH11 : Hid (Bx 9 W11 (w.heap.size + 1) house4) := by rw [hW11]; exact HH10.out.alloc _
                      have hc11 : W11.cell? ⟨w.heap.size + 1, k, none⟩ = some (.string hs) := house_same HH10.out HH11.out hc10
                      have hl11 : w2.heap.size ≤ W11.heap.size := by rw [hW11]; simp; omega
                      have hb10 : w.heap.size < W10.heap.size := Nat.lt_of_lt_of_le hw2 hl10
                      have HZ11 : Hid (Bx 3 W11 W9.heap.size intsW) := by rw [hW11]; exact HZ10.out.alloc _
                      have HX11 : Hid (Bx 112 W11 W10.heap.size #[.string ⟨#[]⟩, .string ⟨#[]⟩, .string ⟨#[]⟩, .int .i64 0]) := by rw [hW11]; exact Bx.new _ _ _
                      have hv10 : u3.ownBlock ≠ some W10.heap.size := fun e => by have := HVT.out _ e; omega
                      have hne10 : ∀ j : Nat, (⟨W10.heap.size, j, none⟩ : Addr).block ≠ w.heap.size + 1 := fun j e => by have e' : W10.heap.size = w.heap.size + 1 := e; omega
                      clear hW11
                      refine hK.out _ _ ?_ (fun hHeld => ?_)
                      · exact hc11
                      clear hK K
                      try simp only [Act.put, List.setIfInBounds_toArray, List.set_cons_zero, List.set_cons_succ]
                      refine wpAnyH_ready (rs := [16]) (by kernel_rfl) (by simp) ?_
                      refine AllReadyH.cons rfl (fun K hK => ?_) ?_
                      · have p0 := HX11.out.cell 0 rfl
                        have p1 := HX11.out.cell 1 rfl
                        have p2 := HX11.out.cell 2 rfl
                        have p3 := HX11.out.cell 3 rfl
                        have pf := HX11.out.free
                        go_simp
                        refine hK.out _ _ ?_ (fun hHeld => ?_)
                        · exact house_same HH11.out (house_set (house_set (house_set (house_set HH11.out (hne10 0) _) (hne10 1) _) (hne10 2) _) (hne10 3) _) hc11
                        clear hK K
                        try simp only [Act.put, List.setIfInBounds_toArray, List.set_cons_zero, List.set_cons_succ]
                        refine wpAnyH_done (by kernel_rfl) ?_ _
                        go_wp2_with fail
                        go_meet
                        refine ⟨W10.heap.size, nt, z, rfl, hns, hz0, hz9, ?_, ?_, ?_, hb10, fun b hb e => by have := HVT.out b hb; have := hl10; omega⟩
                        · exact (((HX11.out.set 0 _).set 1 _).set 2 _).set 3 _
                        · exact (((HI11.out.set HX11.out hb10 hv10 0 _).set (HX11.out.set 0 _) hb10 hv10 1 _).set ((HX11.out.set 0 _).set 1 _) hb10 hv10 2 _).set (((HX11.out.set 0 _).set 1 _).set 2 _) hb10 hv10 3 _
                        · exact house_set (house_set (house_set (house_set HH11.out (hne10 0) _) (hne10 1) _) (hne10 2) _) (hne10 3) _
                      exact AllReadyH.nil
                    exact AllReadyH.nil
                  refine AllReadyH.cons rfl (fun K hK => ?_) ?_
                  · go_simp
                    obtain ⟨W12, hW12⟩ : ∃ W, W = W10.alloc (.cells #[.string ⟨#[]⟩, .string ⟨#[]⟩, .string ⟨#[]⟩, .int .i64 0] 112) := ⟨_, rfl⟩
                    rw [← hW12]
                    have HI12 : Hid (WI B r (q + 53 * k + 1 + 44 + 1) w W12 u3 L) := by rw [hW12]; exact HI10.out.alloc _
                    have HH12 : Hid (Bx 9 W12 (w.heap.size + 1) house4) := by rw [hW12]; exact HH10.out.alloc _
                    have hc12 : W12.cell? ⟨w.heap.size + 1, k, none⟩ = some (.string hs) := house_same HH10.out HH12.out hc10
                    have hl12 : w2.heap.size ≤ W12.heap.size := by rw [hW12]; simp; omega
                    have hb10 : w.heap.size < W10.heap.size := Nat.lt_of_lt_of_le hw2 hl10
                    have HZ12 : Hid (Bx 3 W12 W9.heap.size intsW) := by rw [hW12]; exact HZ10.out.alloc _
                    have HX12 : Hid (Bx 112 W12 W10.heap.size #[.string ⟨#[]⟩, .string ⟨#[]⟩, .string ⟨#[]⟩, .int .i64 0]) := by rw [hW12]; exact Bx.new _ _ _
                    have hv10 : u3.ownBlock ≠ some W10.heap.size := fun e => by have := HVT.out _ e; omega
                    have hne10 : ∀ j : Nat, (⟨W10.heap.size, j, none⟩ : Addr).block ≠ w.heap.size + 1 := fun j e => by have e' : W10.heap.size = w.heap.size + 1 := e; omega
                    clear hW12
                    refine hK.out _ _ ?_ (fun hHeld => ?_)
                    · exact hc12
                    clear hK K
                    try simp only [Act.put, List.setIfInBounds_toArray, List.set_cons_zero, List.set_cons_succ]
                    refine wpAnyH_ready (rs := [13]) (by kernel_rfl) (by simp) ?_
                    refine AllReadyH.cons rfl (fun K hK => ?_) ?_
                    · obtain ⟨z, hz, hz0, hz9⟩ := ints_at HZ12.out x6 (by omega)
                      go_simp
                      refine hK.out _ _ ?_ (fun hHeld => ?_)
                      · exact hc12
                      clear hK K
                      try simp only [Act.put, List.setIfInBounds_toArray, List.set_cons_zero, List.set_cons_succ]
                      refine wpAnyH_take (i := 14) (oi := ({ dst := some 34, op := Go.Op.build 112 #[(0, Go.Operand.tmp 25), (1, Go.Operand.tmp 28), (3, Go.Operand.tmp 33)], type := 112, pos := "l71_draw.go:277", after := #[{ on := 5, ground := Go.Ground.data }, { on := 8, ground := Go.Ground.data }, { on := 13, ground := Go.Ground.data }], guard := none } : Oper)) (v := ?_) rfl (by kernel_rfl) (by kernel_rfl) (by kernel_rfl) (fun _ _ _ h => h) (Or.inl ⟨by rfl, ?_⟩) hHeld ?_
                      rotate_left
                      · (intro w hSw; (try dsimp only at hSw); go_simp; try with_reducible rfl)
                      try simp only [Act.put, List.setIfInBounds_toArray, List.set_cons_zero, List.set_cons_succ]
                      refine wpAnyH_ready (rs := [16]) (by kernel_rfl) (by simp) ?_
                      refine AllReadyH.cons rfl (fun K hK => ?_) ?_
                      · have p0 := HX12.out.cell 0 rfl
                        have p1 := HX12.out.cell 1 rfl
                        have p2 := HX12.out.cell 2 rfl
                        have p3 := HX12.out.cell 3 rfl
                        have pf := HX12.out.free
                        go_simp
                        refine hK.out _ _ ?_ (fun hHeld => ?_)
                        · exact house_same HH12.out (house_set (house_set (house_set (house_set HH12.out (hne10 0) _) (hne10 1) _) (hne10 2) _) (hne10 3) _) hc12
                        clear hK K
                        try simp only [Act.put, List.setIfInBounds_toArray, List.set_cons_zero, List.set_cons_succ]
                        refine wpAnyH_done (by kernel_rfl) ?_ _
                        go_wp2_with fail
                        go_meet
                        refine ⟨W10.heap.size, nt, z, rfl, hns, hz0, hz9, ?_, ?_, ?_, hb10, fun b hb e => by have := HVT.out b hb; have := hl10; omega⟩
                        · exact (((HX12.out.set 0 _).set 1 _).set 2 _).set 3 _
                        · exact (((HI12.out.set HX12.out hb10 hv10 0 _).set (HX12.out.set 0 _) hb10 hv10 1 _).set ((HX12.out.set 0 _).set 1 _) hb10 hv10 2 _).set (((HX12.out.set 0 _).set 1 _).set 2 _) hb10 hv10 3 _
                        · exact house_set (house_set (house_set (house_set HH12.out (hne10 0) _) (hne10 1) _) (hne10 2) _) (hne10 3) _
                      exact AllReadyH.nil
                    exact AllReadyH.nil
                  exact AllReadyH.nil
                refine AllReadyH.cons rfl (fun K hK => ?_) ?_
                · go_simp
                  obtain ⟨W13, hW13⟩ : ∃ W, W = W9.alloc (.cells #[.string ⟨#[]⟩, .string ⟨#[]⟩, .string ⟨#[]⟩, .int .i64 0] 112) := ⟨_, rfl⟩
                  rw [← hW13]
                  have HI13 : Hid (WI B r (q + 53 * k + 1 + 44 + 1) w W13 u3 L) := by rw [hW13]; exact HI9.out.alloc _
                  have HH13 : Hid (Bx 9 W13 (w.heap.size + 1) house4) := by rw [hW13]; exact HH9.out.alloc _
                  have hc13 : W13.cell? ⟨w.heap.size + 1, k, none⟩ = some (.string hs) := house_same HH9.out HH13.out hc9
                  have hl13 : w2.heap.size ≤ W13.heap.size := by rw [hW13]; simp; omega
                  have hb9 : w.heap.size < W9.heap.size := Nat.lt_of_lt_of_le hw2 hl9
                  have HX13 : Hid (Bx 112 W13 W9.heap.size #[.string ⟨#[]⟩, .string ⟨#[]⟩, .string ⟨#[]⟩, .int .i64 0]) := by rw [hW13]; exact Bx.new _ _ _
                  have hv9 : u3.ownBlock ≠ some W9.heap.size := fun e => by have := HVT.out _ e; omega
                  have hne9 : ∀ j : Nat, (⟨W9.heap.size, j, none⟩ : Addr).block ≠ w.heap.size + 1 := fun j e => by have e' : W9.heap.size = w.heap.size + 1 := e; omega
                  clear hW13
                  refine hK.out _ _ ?_ (fun hHeld => ?_)
                  · exact hc13
                  clear hK K
                  try simp only [Act.put, List.setIfInBounds_toArray, List.set_cons_zero, List.set_cons_succ]
                  refine wpAnyH_ready (rs := [9]) (by kernel_rfl) (by simp) ?_
                  refine AllReadyH.cons rfl (fun K hK => ?_) ?_
                  · go_simp
                    obtain ⟨W14, hW14⟩ : ∃ W, W = W13.alloc (.cells #[.int .i64 0, .int .i64 0, .int .i64 0, .int .i64 1, .int .i64 2, .int .i64 5] 3) := ⟨_, rfl⟩
                    rw [← hW14]
                    have HI14 : Hid (WI B r (q + 53 * k + 1 + 44 + 1) w W14 u3 L) := by rw [hW14]; exact HI13.out.alloc _
                    have HH14 : Hid (Bx 9 W14 (w.heap.size + 1) house4) := by rw [hW14]; exact HH13.out.alloc _
                    have hc14 : W14.cell? ⟨w.heap.size + 1, k, none⟩ = some (.string hs) := house_same HH13.out HH14.out hc13
                    have hl14 : w2.heap.size ≤ W14.heap.size := by rw [hW14]; simp; omega
                    have hb13 : w.heap.size < W13.heap.size := Nat.lt_of_lt_of_le hw2 hl13
                    have HZ14 : Hid (Bx 3 W14 W13.heap.size intsW) := by rw [hW14]; exact Bx.new _ _ _
                    have HX14 : Hid (Bx 112 W14 W9.heap.size #[.string ⟨#[]⟩, .string ⟨#[]⟩, .string ⟨#[]⟩, .int .i64 0]) := by rw [hW14]; exact HX13.out.alloc _
                    clear hW14
                    refine hK.out _ _ ?_ (fun hHeld => ?_)
                    · exact hc14
                    clear hK K
                    try simp only [Act.put, List.setIfInBounds_toArray, List.set_cons_zero, List.set_cons_succ]
                    refine wpAnyH_take (i := 12) (oi := ({ dst := some 32, op := Go.Op.indexAddr 51 (Go.Operand.tmp 29) (Go.Operand.tmp 31), type := 0, pos := "l71_draw.go:277", after := #[{ on := 9, ground := Go.Ground.data }, { on := 11, ground := Go.Ground.data }], guard := none } : Oper)) (v := ?_) rfl (by kernel_rfl) (by kernel_rfl) (by kernel_rfl) (fun _ _ _ h => h) (Or.inl ⟨by rfl, ?_⟩) hHeld ?_
                    rotate_left
                    · (intro w hSw; (try dsimp only at hSw); go_simp; try with_reducible rfl)
                    try simp only [Act.put, List.setIfInBounds_toArray, List.set_cons_zero, List.set_cons_succ]
                    refine wpAnyH_ready (rs := [13]) (by kernel_rfl) (by simp) ?_
                    refine AllReadyH.cons rfl (fun K hK => ?_) ?_
                    · obtain ⟨z, hz, hz0, hz9⟩ := ints_at HZ14.out x6 (by omega)
                      go_simp
                      refine hK.out _ _ ?_ (fun hHeld => ?_)
                      · exact hc14
                      clear hK K
                      try simp only [Act.put, List.setIfInBounds_toArray, List.set_cons_zero, List.set_cons_succ]
                      refine wpAnyH_take (i := 14) (oi := ({ dst := some 34, op := Go.Op.build 112 #[(0, Go.Operand.tmp 25), (1, Go.Operand.tmp 28), (3, Go.Operand.tmp 33)], type := 112, pos := "l71_draw.go:277", after := #[{ on := 5, ground := Go.Ground.data }, { on := 8, ground := Go.Ground.data }, { on := 13, ground := Go.Ground.data }], guard := none } : Oper)) (v := ?_) rfl (by kernel_rfl) (by kernel_rfl) (by kernel_rfl) (fun _ _ _ h => h) (Or.inl ⟨by rfl, ?_⟩) hHeld ?_
                      rotate_left
                      · (intro w hSw; (try dsimp only at hSw); go_simp; try with_reducible rfl)
                      try simp only [Act.put, List.setIfInBounds_toArray, List.set_cons_zero, List.set_cons_succ]
                      refine wpAnyH_ready (rs := [16]) (by kernel_rfl) (by simp) ?_
                      refine AllReadyH.cons rfl (fun K hK => ?_) ?_
                      · have p0 := HX14.out.cell 0 rfl
                        have p1 := HX14.out.cell 1 rfl
                        have p2 := HX14.out.cell 2 rfl
                        have p3 := HX14.out.cell 3 rfl
                        have pf := HX14.out.free
                        go_simp
                        refine hK.out _ _ ?_ (fun hHeld => ?_)
                        · exact house_same HH14.out (house_set (house_set (house_set (house_set HH14.out (hne9 0) _) (hne9 1) _) (hne9 2) _) (hne9 3) _) hc14
                        clear hK K
                        try simp only [Act.put, List.setIfInBounds_toArray, List.set_cons_zero, List.set_cons_succ]
                        refine wpAnyH_done (by kernel_rfl) ?_ _
                        go_wp2_with fail
                        go_meet
                        refine ⟨W9.heap.size, nt, z, rfl, hns, hz0, hz9, ?_, ?_, ?_, hb9, fun b hb e => by have := HVT.out b hb; have := hl9; omega⟩
                        · exact (((HX14.out.set 0 _).set 1 _).set 2 _).set 3 _
                        · exact (((HI14.out.set HX14.out hb9 hv9 0 _).set (HX14.out.set 0 _) hb9 hv9 1 _).set ((HX14.out.set 0 _).set 1 _) hb9 hv9 2 _).set (((HX14.out.set 0 _).set 1 _).set 2 _) hb9 hv9 3 _
                        · exact house_set (house_set (house_set (house_set HH14.out (hne9 0) _) (hne9 1) _) (hne9 2) _) (hne9 3) _
                      exact AllReadyH.nil
                    exact AllReadyH.nil
                  exact AllReadyH.nil
                exact AllReadyH.nil
              refine AllReadyH.cons rfl (fun K hK => ?_) ?_
              · go_simp
                obtain ⟨W15, hW15⟩ : ∃ W, W = W2.alloc (.cells #[.string ⟨#[]⟩, .string ⟨#[]⟩, .string ⟨#[]⟩, .int .i64 0] 112) := ⟨_, rfl⟩
                rw [← hW15]
                have HI15 : Hid (WI B r (q + 53 * k + 1 + 44) w W15 u3 L) := by rw [hW15]; exact HI2.out.alloc _
                have HH15 : Hid (Bx 9 W15 (w.heap.size + 1) house4) := by rw [hW15]; exact HH2.out.alloc _
                have hc15 : W15.cell? ⟨w.heap.size + 1, k, none⟩ = some (.string hs) := house_same HH2.out HH15.out hc2
                have hl15 : w2.heap.size ≤ W15.heap.size := by rw [hW15]; simp; omega
                have hb2 : w.heap.size < W2.heap.size := Nat.lt_of_lt_of_le hw2 hl2
                have HX15 : Hid (Bx 112 W15 W2.heap.size #[.string ⟨#[]⟩, .string ⟨#[]⟩, .string ⟨#[]⟩, .int .i64 0]) := by rw [hW15]; exact Bx.new _ _ _
                have hv2 : u3.ownBlock ≠ some W2.heap.size := fun e => by have := HVT.out _ e; omega
                have hne2 : ∀ j : Nat, (⟨W2.heap.size, j, none⟩ : Addr).block ≠ w.heap.size + 1 := fun j e => by have e' : W2.heap.size = w.heap.size + 1 := e; omega
                clear hW15
                refine hK.out _ _ ?_ (fun hHeld => ?_)
                · exact hc15
                clear hK K
                try simp only [Act.put, List.setIfInBounds_toArray, List.set_cons_zero, List.set_cons_succ]
                refine wpAnyH_ready (rs := [9, 11]) (by kernel_rfl) (by simp) ?_
                refine AllReadyH.cons rfl (fun K hK => ?_) ?_
                · go_simp
                  obtain ⟨W16, hW16⟩ : ∃ W, W = W15.alloc (.cells #[.int .i64 0, .int .i64 0, .int .i64 0, .int .i64 1, .int .i64 2, .int .i64 5] 3) := ⟨_, rfl⟩
                  rw [← hW16]
                  have HI16 : Hid (WI B r (q + 53 * k + 1 + 44) w W16 u3 L) := by rw [hW16]; exact HI15.out.alloc _
                  have HH16 : Hid (Bx 9 W16 (w.heap.size + 1) house4) := by rw [hW16]; exact HH15.out.alloc _
                  have hc16 : W16.cell? ⟨w.heap.size + 1, k, none⟩ = some (.string hs) := house_same HH15.out HH16.out hc15
                  have hl16 : w2.heap.size ≤ W16.heap.size := by rw [hW16]; simp; omega
                  have hb15 : w.heap.size < W15.heap.size := Nat.lt_of_lt_of_le hw2 hl15
                  have HZ16 : Hid (Bx 3 W16 W15.heap.size intsW) := by rw [hW16]; exact Bx.new _ _ _
                  have HX16 : Hid (Bx 112 W16 W2.heap.size #[.string ⟨#[]⟩, .string ⟨#[]⟩, .string ⟨#[]⟩, .int .i64 0]) := by rw [hW16]; exact HX15.out.alloc _
                  clear hW16
                  refine hK.out _ _ ?_ (fun hHeld => ?_)
                  · exact hc16
                  clear hK K
                  try simp only [Act.put, List.setIfInBounds_toArray, List.set_cons_zero, List.set_cons_succ]
                  refine wpAnyH_ready (rs := [11]) (by kernel_rfl) (by simp) ?_
                  refine AllReadyH.cons rfl (fun K hK => ?_) ?_
                  · go_simp
                    refine (pick_any B r (q + 53 * k + 1 + 44) 6 _ HI16.out.rd (by omega) (by omega) (by omega)).mono ?_
                    rintro e W17 ⟨x6, rfl, hx6, hr5, hg5⟩
                    have HI17 : Hid (WI B r (q + 53 * k + 1 + 44 + 1) w W17 u3 L) := HI16.out.step hg5 hr5
                    have HH17 : Hid (Bx 9 W17 (w.heap.size + 1) house4) := HH16.out.grown hg5 (fun e => hrH (Option.some.inj e))
                    have hc17 : W17.cell? ⟨w.heap.size + 1, k, none⟩ = some (.string hs) := house_same HH16.out HH17.out hc16
                    have HZ17 : Hid (Bx 3 W17 W15.heap.size intsW) := HZ16.out.grown hg5 (hneZ _ hb15)
                    have HX17 : Hid (Bx 112 W17 W2.heap.size #[.string ⟨#[]⟩, .string ⟨#[]⟩, .string ⟨#[]⟩, .int .i64 0]) := HX16.out.grown hg5 (hneZ _ hb2)
                    have hl17 : w2.heap.size ≤ W17.heap.size := Nat.le_trans hl16 hg5.size
                    clear hr5 hg5
                    have hx6i : (x6 : Int) < 6 := by omega
                    have hx6z : (0 : Int) ≤ (x6 : Int) := by omega
                    refine hK.out _ _ ?_ (fun hHeld => ?_)
                    · exact hc17
                    clear hK K
                    try simp only [Act.put, List.setIfInBounds_toArray, List.set_cons_zero, List.set_cons_succ]
                    refine wpAnyH_take (i := 12) (oi := ({ dst := some 32, op := Go.Op.indexAddr 51 (Go.Operand.tmp 29) (Go.Operand.tmp 31), type := 0, pos := "l71_draw.go:277", after := #[{ on := 9, ground := Go.Ground.data }, { on := 11, ground := Go.Ground.data }], guard := none } : Oper)) (v := ?_) rfl (by kernel_rfl) (by kernel_rfl) (by kernel_rfl) (fun _ _ _ h => h) (Or.inl ⟨by rfl, ?_⟩) hHeld ?_
                    rotate_left
                    · (intro w hSw; (try dsimp only at hSw); go_simp; try with_reducible rfl)
                    try simp only [Act.put, List.setIfInBounds_toArray, List.set_cons_zero, List.set_cons_succ]
                    refine wpAnyH_ready (rs := [13]) (by kernel_rfl) (by simp) ?_
                    refine AllReadyH.cons rfl (fun K hK => ?_) ?_
                    · obtain ⟨z, hz, hz0, hz9⟩ := ints_at HZ17.out x6 (by omega)
                      go_simp
                      refine hK.out _ _ ?_ (fun hHeld => ?_)
                      · exact hc17
                      clear hK K
                      try simp only [Act.put, List.setIfInBounds_toArray, List.set_cons_zero, List.set_cons_succ]
                      refine wpAnyH_take (i := 14) (oi := ({ dst := some 34, op := Go.Op.build 112 #[(0, Go.Operand.tmp 25), (1, Go.Operand.tmp 28), (3, Go.Operand.tmp 33)], type := 112, pos := "l71_draw.go:277", after := #[{ on := 5, ground := Go.Ground.data }, { on := 8, ground := Go.Ground.data }, { on := 13, ground := Go.Ground.data }], guard := none } : Oper)) (v := ?_) rfl (by kernel_rfl) (by kernel_rfl) (by kernel_rfl) (fun _ _ _ h => h) (Or.inl ⟨by rfl, ?_⟩) hHeld ?_
                      rotate_left
                      · (intro w hSw; (try dsimp only at hSw); go_simp; try with_reducible rfl)
                      try simp only [Act.put, List.setIfInBounds_toArray, List.set_cons_zero, List.set_cons_succ]
                      refine wpAnyH_ready (rs := [16]) (by kernel_rfl) (by simp) ?_
                      refine AllReadyH.cons rfl (fun K hK => ?_) ?_
                      · have p0 := HX17.out.cell 0 rfl
                        have p1 := HX17.out.cell 1 rfl
                        have p2 := HX17.out.cell 2 rfl
                        have p3 := HX17.out.cell 3 rfl
                        have pf := HX17.out.free
                        go_simp
                        refine hK.out _ _ ?_ (fun hHeld => ?_)
                        · exact house_same HH17.out (house_set (house_set (house_set (house_set HH17.out (hne2 0) _) (hne2 1) _) (hne2 2) _) (hne2 3) _) hc17
                        clear hK K
                        try simp only [Act.put, List.setIfInBounds_toArray, List.set_cons_zero, List.set_cons_succ]
                        refine wpAnyH_done (by kernel_rfl) ?_ _
                        go_wp2_with fail
                        go_meet
                        refine ⟨W2.heap.size, nt, z, rfl, hns, hz0, hz9, ?_, ?_, ?_, hb2, fun b hb e => by have := HVT.out b hb; have := hl2; omega⟩
                        · exact (((HX17.out.set 0 _).set 1 _).set 2 _).set 3 _
                        · exact (((HI17.out.set HX17.out hb2 hv2 0 _).set (HX17.out.set 0 _) hb2 hv2 1 _).set ((HX17.out.set 0 _).set 1 _) hb2 hv2 2 _).set (((HX17.out.set 0 _).set 1 _).set 2 _) hb2 hv2 3 _
                        · exact house_set (house_set (house_set (house_set HH17.out (hne2 0) _) (hne2 1) _) (hne2 2) _) (hne2 3) _
                      exact AllReadyH.nil
                    exact AllReadyH.nil
                  exact AllReadyH.nil
                refine AllReadyH.cons rfl (fun K hK => ?_) ?_
                · go_simp
                  refine (pick_any B r (q + 53 * k + 1 + 44) 6 _ HI15.out.rd (by omega) (by omega) (by omega)).mono ?_
                  rintro e W18 ⟨x6, rfl, hx6, hr5, hg5⟩
                  have HI18 : Hid (WI B r (q + 53 * k + 1 + 44 + 1) w W18 u3 L) := HI15.out.step hg5 hr5
                  have HH18 : Hid (Bx 9 W18 (w.heap.size + 1) house4) := HH15.out.grown hg5 (fun e => hrH (Option.some.inj e))
                  have hc18 : W18.cell? ⟨w.heap.size + 1, k, none⟩ = some (.string hs) := house_same HH15.out HH18.out hc15
                  have HX18 : Hid (Bx 112 W18 W2.heap.size #[.string ⟨#[]⟩, .string ⟨#[]⟩, .string ⟨#[]⟩, .int .i64 0]) := HX15.out.grown hg5 (hneZ _ hb2)
                  have hl18 : w2.heap.size ≤ W18.heap.size := Nat.le_trans hl15 hg5.size
                  clear hr5 hg5
                  have hx6i : (x6 : Int) < 6 := by omega
                  have hx6z : (0 : Int) ≤ (x6 : Int) := by omega
                  refine hK.out _ _ ?_ (fun hHeld => ?_)
                  · exact hc18
                  clear hK K
                  try simp only [Act.put, List.setIfInBounds_toArray, List.set_cons_zero, List.set_cons_succ]
                  refine wpAnyH_ready (rs := [9]) (by kernel_rfl) (by simp) ?_
                  refine AllReadyH.cons rfl (fun K hK => ?_) ?_
                  · go_simp
                    obtain ⟨W19, hW19⟩ : ∃ W, W = W18.alloc (.cells #[.int .i64 0, .int .i64 0, .int .i64 0, .int .i64 1, .int .i64 2, .int .i64 5] 3) := ⟨_, rfl⟩
                    rw [← hW19]
                    have HI19 : Hid (WI B r (q + 53 * k + 1 + 44 + 1) w W19 u3 L) := by rw [hW19]; exact HI18.out.alloc _
                    have HH19 : Hid (Bx 9 W19 (w.heap.size + 1) house4) := by rw [hW19]; exact HH18.out.alloc _
                    have hc19 : W19.cell? ⟨w.heap.size + 1, k, none⟩ = some (.string hs) := house_same HH18.out HH19.out hc18
                    have hl19 : w2.heap.size ≤ W19.heap.size := by rw [hW19]; simp; omega
                    have hb18 : w.heap.size < W18.heap.size := Nat.lt_of_lt_of_le hw2 hl18
                    have HZ19 : Hid (Bx 3 W19 W18.heap.size intsW) := by rw [hW19]; exact Bx.new _ _ _
                    have HX19 : Hid (Bx 112 W19 W2.heap.size #[.string ⟨#[]⟩, .string ⟨#[]⟩, .string ⟨#[]⟩, .int .i64 0]) := by rw [hW19]; exact HX18.out.alloc _
                    clear hW19
                    refine hK.out _ _ ?_ (fun hHeld => ?_)
                    · exact hc19
                    clear hK K
                    try simp only [Act.put, List.setIfInBounds_toArray, List.set_cons_zero, List.set_cons_succ]
                    refine wpAnyH_take (i := 12) (oi := ({ dst := some 32, op := Go.Op.indexAddr 51 (Go.Operand.tmp 29) (Go.Operand.tmp 31), type := 0, pos := "l71_draw.go:277", after := #[{ on := 9, ground := Go.Ground.data }, { on := 11, ground := Go.Ground.data }], guard := none } : Oper)) (v := ?_) rfl (by kernel_rfl) (by kernel_rfl) (by kernel_rfl) (fun _ _ _ h => h) (Or.inl ⟨by rfl, ?_⟩) hHeld ?_
                    rotate_left
                    · (intro w hSw; (try dsimp only at hSw); go_simp; try with_reducible rfl)
                    try simp only [Act.put, List.setIfInBounds_toArray, List.set_cons_zero, List.set_cons_succ]
                    refine wpAnyH_ready (rs := [13]) (by kernel_rfl) (by simp) ?_
                    refine AllReadyH.cons rfl (fun K hK => ?_) ?_
                    · obtain ⟨z, hz, hz0, hz9⟩ := ints_at HZ19.out x6 (by omega)
                      go_simp
                      refine hK.out _ _ ?_ (fun hHeld => ?_)
                      · exact hc19
                      clear hK K
                      try simp only [Act.put, List.setIfInBounds_toArray, List.set_cons_zero, List.set_cons_succ]
                      refine wpAnyH_take (i := 14) (oi := ({ dst := some 34, op := Go.Op.build 112 #[(0, Go.Operand.tmp 25), (1, Go.Operand.tmp 28), (3, Go.Operand.tmp 33)], type := 112, pos := "l71_draw.go:277", after := #[{ on := 5, ground := Go.Ground.data }, { on := 8, ground := Go.Ground.data }, { on := 13, ground := Go.Ground.data }], guard := none } : Oper)) (v := ?_) rfl (by kernel_rfl) (by kernel_rfl) (by kernel_rfl) (fun _ _ _ h => h) (Or.inl ⟨by rfl, ?_⟩) hHeld ?_
                      rotate_left
                      · (intro w hSw; (try dsimp only at hSw); go_simp; try with_reducible rfl)
                      try simp only [Act.put, List.setIfInBounds_toArray, List.set_cons_zero, List.set_cons_succ]
                      refine wpAnyH_ready (rs := [16]) (by kernel_rfl) (by simp) ?_
                      refine AllReadyH.cons rfl (fun K hK => ?_) ?_
                      · have p0 := HX19.out.cell 0 rfl
                        have p1 := HX19.out.cell 1 rfl
                        have p2 := HX19.out.cell 2 rfl
                        have p3 := HX19.out.cell 3 rfl
                        have pf := HX19.out.free
                        go_simp
                        refine hK.out _ _ ?_ (fun hHeld => ?_)
                        · exact house_same HH19.out (house_set (house_set (house_set (house_set HH19.out (hne2 0) _) (hne2 1) _) (hne2 2) _) (hne2 3) _) hc19
                        clear hK K
                        try simp only [Act.put, List.setIfInBounds_toArray, List.set_cons_zero, List.set_cons_succ]
                        refine wpAnyH_done (by kernel_rfl) ?_ _
                        go_wp2_with fail
                        go_meet
                        refine ⟨W2.heap.size, nt, z, rfl, hns, hz0, hz9, ?_, ?_, ?_, hb2, fun b hb e => by have := HVT.out b hb; have := hl2; omega⟩
                        · exact (((HX19.out.set 0 _).set 1 _).set 2 _).set 3 _
                        · exact (((HI19.out.set HX19.out hb2 hv2 0 _).set (HX19.out.set 0 _) hb2 hv2 1 _).set ((HX19.out.set 0 _).set 1 _) hb2 hv2 2 _).set (((HX19.out.set 0 _).set 1 _).set 2 _) hb2 hv2 3 _
                        · exact house_set (house_set (house_set (house_set HH19.out (hne2 0) _) (hne2 1) _) (hne2 2) _) (hne2 3) _
                      exact AllReadyH.nil
                    exact AllReadyH.nil
                  exact AllReadyH.nil
                exact AllReadyH.nil
              exact AllReadyH.nil
            refine AllReadyH.cons rfl (fun K hK => ?_) ?_
            · go_simp
              obtain ⟨W20, hW20⟩ : ∃ W, W = W1.alloc (.cells #[.int .i64 0, .int .i64 0, .int .i64 0, .int .i64 1, .int .i64 2, .int .i64 5] 3) := ⟨_, rfl⟩
              rw [← hW20]
              have HI20 : Hid (WI B r (q + 53 * k + 1 + 44) w W20 u3 L) := by rw [hW20]; exact HI1.out.alloc _
              have HH20 : Hid (Bx 9 W20 (w.heap.size + 1) house4) := by rw [hW20]; exact HH1.out.alloc _
              have hc20 : W20.cell? ⟨w.heap.size + 1, k, none⟩ = some (.string hs) := house_same HH1.out HH20.out hc1
              have hl20 : w2.heap.size ≤ W20.heap.size := by rw [hW20]; simp; omega
              have hb1 : w.heap.size < W1.heap.size := Nat.lt_of_lt_of_le hw2 hl1
              have HG20 : Hid (IsRows FGr W20 a3 c3 Lg ∧ GrsAt W20 Lg) := by rw [hW20]; exact ⟨IsRows.keep HG1.out.1 (alloc_keep _ _), GrsAt.keep HG1.out.2 (alloc_keep _ _)⟩
              have HZ20 : Hid (Bx 3 W20 W1.heap.size intsW) := by rw [hW20]; exact Bx.new _ _ _
              clear hW20
              refine hK.out _ _ ?_ (fun hHeld => ?_)
              · exact hc20
              clear hK K
              try simp only [Act.put, List.setIfInBounds_toArray, List.set_cons_zero, List.set_cons_succ]
              refine wpAnyH_ready (rs := [8, 15]) (by kernel_rfl) (by simp) ?_
              refine AllReadyH.cons rfl (fun K hK => ?_) ?_
              · go_simp
                refine (specNText_any a3 c3 Lg _ HG20.out.1 HG20.out.2 (fun g hg => (HBG.out g hg).sz) (by omega)).mono ?_
                rintro e W21 ⟨rfl, hb4⟩
                have hns := notice_ok Lg
                have HI21 : Hid (WI B r (q + 53 * k + 1 + 44) w W21 u3 L) := HI20.out.below hb4
                have HH21 : Hid (Bx 9 W21 (w.heap.size + 1) house4) := HH20.out.keep (fun k hk => hb4.block k hk)
                have hc21 : W21.cell? ⟨w.heap.size + 1, k, none⟩ = some (.string hs) := house_same HH20.out HH21.out hc20
                have HZ21 : Hid (Bx 3 W21 W1.heap.size intsW) := HZ20.out.keep (fun k hk => hb4.block k hk)
                have hl21 : w2.heap.size ≤ W21.heap.size := Nat.le_trans hl20 hb4.size
                clear hb4
                generalize ntS Lg = nt at *
                refine hK.out _ _ ?_ (fun hHeld => ?_)
                · exact hc21
                clear hK K
                try simp only [Act.put, List.setIfInBounds_toArray, List.set_cons_zero, List.set_cons_succ]
                refine wpAnyH_ready (rs := [11, 15]) (by kernel_rfl) (by simp) ?_
                refine AllReadyH.cons rfl (fun K hK => ?_) ?_
                · go_simp
                  refine (pick_any B r (q + 53 * k + 1 + 44) 6 _ HI21.out.rd (by omega) (by omega) (by omega)).mono ?_
                  rintro e W22 ⟨x6, rfl, hx6, hr5, hg5⟩
                  have HI22 : Hid (WI B r (q + 53 * k + 1 + 44 + 1) w W22 u3 L) := HI21.out.step hg5 hr5
                  have HH22 : Hid (Bx 9 W22 (w.heap.size + 1) house4) := HH21.out.grown hg5 (fun e => hrH (Option.some.inj e))
                  have hc22 : W22.cell? ⟨w.heap.size + 1, k, none⟩ = some (.string hs) := house_same HH21.out HH22.out hc21
                  have HZ22 : Hid (Bx 3 W22 W1.heap.size intsW) := HZ21.out.grown hg5 (hneZ _ hb1)
                  have hl22 : w2.heap.size ≤ W22.heap.size := Nat.le_trans hl21 hg5.size
                  clear hr5 hg5
                  have hx6i : (x6 : Int) < 6 := by omega
                  have hx6z : (0 : Int) ≤ (x6 : Int) := by omega
                  refine hK.out _ _ ?_ (fun hHeld => ?_)
                  · exact hc22
                  clear hK K
                  try simp only [Act.put, List.setIfInBounds_toArray, List.set_cons_zero, List.set_cons_succ]
                  refine wpAnyH_take (i := 12) (oi := ({ dst := some 32, op := Go.Op.indexAddr 51 (Go.Operand.tmp 29) (Go.Operand.tmp 31), type := 0, pos := "l71_draw.go:277", after := #[{ on := 9, ground := Go.Ground.data }, { on := 11, ground := Go.Ground.data }], guard := none } : Oper)) (v := ?_) rfl (by kernel_rfl) (by kernel_rfl) (by kernel_rfl) (fun _ _ _ h => h) (Or.inl ⟨by rfl, ?_⟩) hHeld ?_
                  rotate_left
                  · (intro w hSw; (try dsimp only at hSw); go_simp; try with_reducible rfl)
                  try simp only [Act.put, List.setIfInBounds_toArray, List.set_cons_zero, List.set_cons_succ]
                  refine wpAnyH_ready (rs := [13, 15]) (by kernel_rfl) (by simp) ?_
                  refine AllReadyH.cons rfl (fun K hK => ?_) ?_
                  · obtain ⟨z, hz, hz0, hz9⟩ := ints_at HZ22.out x6 (by omega)
                    go_simp
                    refine hK.out _ _ ?_ (fun hHeld => ?_)
                    · exact hc22
                    clear hK K
                    try simp only [Act.put, List.setIfInBounds_toArray, List.set_cons_zero, List.set_cons_succ]
                    refine wpAnyH_take (i := 14) (oi := ({ dst := some 34, op := Go.Op.build 112 #[(0, Go.Operand.tmp 25), (1, Go.Operand.tmp 28), (3, Go.Operand.tmp 33)], type := 112, pos := "l71_draw.go:277", after := #[{ on := 5, ground := Go.Ground.data }, { on := 8, ground := Go.Ground.data }, { on := 13, ground := Go.Ground.data }], guard := none } : Oper)) (v := ?_) rfl (by kernel_rfl) (by kernel_rfl) (by kernel_rfl) (fun _ _ _ h => h) (Or.inl ⟨by rfl, ?_⟩) hHeld ?_
                    rotate_left
                    · (intro w hSw; (try dsimp only at hSw); go_simp; try with_reducible rfl)
                    try simp only [Act.put, List.setIfInBounds_toArray, List.set_cons_zero, List.set_cons_succ]
                    refine wpAnyH_ready (rs := [15]) (by kernel_rfl) (by simp) ?_
                    refine AllReadyH.cons rfl (fun K hK => ?_) ?_
                    · go_simp
                      obtain ⟨W23, hW23⟩ : ∃ W, W = W22.alloc (.cells #[.string ⟨#[]⟩, .string ⟨#[]⟩, .string ⟨#[]⟩, .int .i64 0] 112) := ⟨_, rfl⟩
                      rw [← hW23]
                      have HI23 : Hid (WI B r (q + 53 * k + 1 + 44 + 1) w W23 u3 L) := by rw [hW23]; exact HI22.out.alloc _
                      have HH23 : Hid (Bx 9 W23 (w.heap.size + 1) house4) := by rw [hW23]; exact HH22.out.alloc _
                      have hc23 : W23.cell? ⟨w.heap.size + 1, k, none⟩ = some (.string hs) := house_same HH22.out HH23.out hc22
                      have hl23 : w2.heap.size ≤ W23.heap.size := by rw [hW23]; simp; omega
                      have hb22 : w.heap.size < W22.heap.size := Nat.lt_of_lt_of_le hw2 hl22
                      have HZ23 : Hid (Bx 3 W23 W1.heap.size intsW) := by rw [hW23]; exact HZ22.out.alloc _
                      have HX23 : Hid (Bx 112 W23 W22.heap.size #[.string ⟨#[]⟩, .string ⟨#[]⟩, .string ⟨#[]⟩, .int .i64 0]) := by rw [hW23]; exact Bx.new _ _ _
                      have hv22 : u3.ownBlock ≠ some W22.heap.size := fun e => by have := HVT.out _ e; omega
                      have hne22 : ∀ j : Nat, (⟨W22.heap.size, j, none⟩ : Addr).block ≠ w.heap.size + 1 := fun j e => by have e' : W22.heap.size = w.heap.size + 1 := e; omega
                      clear hW23
                      refine hK.out _ _ ?_ (fun hHeld => ?_)
                      · exact hc23
                      clear hK K
                      try simp only [Act.put, List.setIfInBounds_toArray, List.set_cons_zero, List.set_cons_succ]
                      refine wpAnyH_ready (rs := [16]) (by kernel_rfl) (by simp) ?_
                      refine AllReadyH.cons rfl (fun K hK => ?_) ?_
                      · have p0 := HX23.out.cell 0 rfl
                        have p1 := HX23.out.cell 1 rfl
                        have p2 := HX23.out.cell 2 rfl
                        have p3 := HX23.out.cell 3 rfl
                        have pf := HX23.out.free
                        go_simp
                        refine hK.out _ _ ?_ (fun hHeld => ?_)
                        · exact house_same HH23.out (house_set (house_set (house_set (house_set HH23.out (hne22 0) _) (hne22 1) _) (hne22 2) _) (hne22 3) _) hc23
                        clear hK K
                        try simp only [Act.put, List.setIfInBounds_toArray, List.set_cons_zero, List.set_cons_succ]
                        refine wpAnyH_done (by kernel_rfl) ?_ _
                        go_wp2_with fail
                        go_meet
                        refine ⟨W22.heap.size, nt, z, rfl, hns, hz0, hz9, ?_, ?_, ?_, hb22, fun b hb e => by have := HVT.out b hb; have := hl22; omega⟩
                        · exact (((HX23.out.set 0 _).set 1 _).set 2 _).set 3 _
                        · exact (((HI23.out.set HX23.out hb22 hv22 0 _).set (HX23.out.set 0 _) hb22 hv22 1 _).set ((HX23.out.set 0 _).set 1 _) hb22 hv22 2 _).set (((HX23.out.set 0 _).set 1 _).set 2 _) hb22 hv22 3 _
                        · exact house_set (house_set (house_set (house_set HH23.out (hne22 0) _) (hne22 1) _) (hne22 2) _) (hne22 3) _
                      exact AllReadyH.nil
                    exact AllReadyH.nil
                  refine AllReadyH.cons rfl (fun K hK => ?_) ?_
                  · go_simp
                    obtain ⟨W24, hW24⟩ : ∃ W, W = W22.alloc (.cells #[.string ⟨#[]⟩, .string ⟨#[]⟩, .string ⟨#[]⟩, .int .i64 0] 112) := ⟨_, rfl⟩
                    rw [← hW24]
                    have HI24 : Hid (WI B r (q + 53 * k + 1 + 44 + 1) w W24 u3 L) := by rw [hW24]; exact HI22.out.alloc _
                    have HH24 : Hid (Bx 9 W24 (w.heap.size + 1) house4) := by rw [hW24]; exact HH22.out.alloc _
                    have hc24 : W24.cell? ⟨w.heap.size + 1, k, none⟩ = some (.string hs) := house_same HH22.out HH24.out hc22
                    have hl24 : w2.heap.size ≤ W24.heap.size := by rw [hW24]; simp; omega
                    have hb22 : w.heap.size < W22.heap.size := Nat.lt_of_lt_of_le hw2 hl22
                    have HZ24 : Hid (Bx 3 W24 W1.heap.size intsW) := by rw [hW24]; exact HZ22.out.alloc _
                    have HX24 : Hid (Bx 112 W24 W22.heap.size #[.string ⟨#[]⟩, .string ⟨#[]⟩, .string ⟨#[]⟩, .int .i64 0]) := by rw [hW24]; exact Bx.new _ _ _
                    have hv22 : u3.ownBlock ≠ some W22.heap.size := fun e => by have := HVT.out _ e; omega
                    have hne22 : ∀ j : Nat, (⟨W22.heap.size, j, none⟩ : Addr).block ≠ w.heap.size + 1 := fun j e => by have e' : W22.heap.size = w.heap.size + 1 := e; omega
                    clear hW24
                    refine hK.out _ _ ?_ (fun hHeld => ?_)
                    · exact hc24
                    clear hK K
                    try simp only [Act.put, List.setIfInBounds_toArray, List.set_cons_zero, List.set_cons_succ]
                    refine wpAnyH_ready (rs := [13]) (by kernel_rfl) (by simp) ?_
                    refine AllReadyH.cons rfl (fun K hK => ?_) ?_
                    · obtain ⟨z, hz, hz0, hz9⟩ := ints_at HZ24.out x6 (by omega)
                      go_simp
                      refine hK.out _ _ ?_ (fun hHeld => ?_)
                      · exact hc24
                      clear hK K
                      try simp only [Act.put, List.setIfInBounds_toArray, List.set_cons_zero, List.set_cons_succ]
                      refine wpAnyH_take (i := 14) (oi := ({ dst := some 34, op := Go.Op.build 112 #[(0, Go.Operand.tmp 25), (1, Go.Operand.tmp 28), (3, Go.Operand.tmp 33)], type := 112, pos := "l71_draw.go:277", after := #[{ on := 5, ground := Go.Ground.data }, { on := 8, ground := Go.Ground.data }, { on := 13, ground := Go.Ground.data }], guard := none } : Oper)) (v := ?_) rfl (by kernel_rfl) (by kernel_rfl) (by kernel_rfl) (fun _ _ _ h => h) (Or.inl ⟨by rfl, ?_⟩) hHeld ?_
                      rotate_left
                      · (intro w hSw; (try dsimp only at hSw); go_simp; try with_reducible rfl)
                      try simp only [Act.put, List.setIfInBounds_toArray, List.set_cons_zero, List.set_cons_succ]
                      refine wpAnyH_ready (rs := [16]) (by kernel_rfl) (by simp) ?_
                      refine AllReadyH.cons rfl (fun K hK => ?_) ?_
                      · have p0 := HX24.out.cell 0 rfl
                        have p1 := HX24.out.cell 1 rfl
                        have p2 := HX24.out.cell 2 rfl
                        have p3 := HX24.out.cell 3 rfl
                        have pf := HX24.out.free
                        go_simp
                        refine hK.out _ _ ?_ (fun hHeld => ?_)
                        · exact house_same HH24.out (house_set (house_set (house_set (house_set HH24.out (hne22 0) _) (hne22 1) _) (hne22 2) _) (hne22 3) _) hc24
                        clear hK K
                        try simp only [Act.put, List.setIfInBounds_toArray, List.set_cons_zero, List.set_cons_succ]
                        refine wpAnyH_done (by kernel_rfl) ?_ _
                        go_wp2_with fail
                        go_meet
                        refine ⟨W22.heap.size, nt, z, rfl, hns, hz0, hz9, ?_, ?_, ?_, hb22, fun b hb e => by have := HVT.out b hb; have := hl22; omega⟩
                        · exact (((HX24.out.set 0 _).set 1 _).set 2 _).set 3 _
                        · exact (((HI24.out.set HX24.out hb22 hv22 0 _).set (HX24.out.set 0 _) hb22 hv22 1 _).set ((HX24.out.set 0 _).set 1 _) hb22 hv22 2 _).set (((HX24.out.set 0 _).set 1 _).set 2 _) hb22 hv22 3 _
                        · exact house_set (house_set (house_set (house_set HH24.out (hne22 0) _) (hne22 1) _) (hne22 2) _) (hne22 3) _
                      exact AllReadyH.nil
                    exact AllReadyH.nil
                  exact AllReadyH.nil
                refine AllReadyH.cons rfl (fun K hK => ?_) ?_
                · go_simp
                  obtain ⟨W25, hW25⟩ : ∃ W, W = W21.alloc (.cells #[.string ⟨#[]⟩, .string ⟨#[]⟩, .string ⟨#[]⟩, .int .i64 0] 112) := ⟨_, rfl⟩
                  rw [← hW25]
                  have HI25 : Hid (WI B r (q + 53 * k + 1 + 44) w W25 u3 L) := by rw [hW25]; exact HI21.out.alloc _
                  have HH25 : Hid (Bx 9 W25 (w.heap.size + 1) house4) := by rw [hW25]; exact HH21.out.alloc _
                  have hc25 : W25.cell? ⟨w.heap.size + 1, k, none⟩ = some (.string hs) := house_same HH21.out HH25.out hc21
                  have hl25 : w2.heap.size ≤ W25.heap.size := by rw [hW25]; simp; omega
                  have hb21 : w.heap.size < W21.heap.size := Nat.lt_of_lt_of_le hw2 hl21
                  have HZ25 : Hid (Bx 3 W25 W1.heap.size intsW) := by rw [hW25]; exact HZ21.out.alloc _
                  have HX25 : Hid (Bx 112 W25 W21.heap.size #[.string ⟨#[]⟩, .string ⟨#[]⟩, .string ⟨#[]⟩, .int .i64 0]) := by rw [hW25]; exact Bx.new _ _ _
                  have hv21 : u3.ownBlock ≠ some W21.heap.size := fun e => by have := HVT.out _ e; omega
                  have hne21 : ∀ j : Nat, (⟨W21.heap.size, j, none⟩ : Addr).block ≠ w.heap.size + 1 := fun j e => by have e' : W21.heap.size = w.heap.size + 1 := e; omega
                  clear hW25
                  refine hK.out _ _ ?_ (fun hHeld => ?_)
                  · exact hc25
                  clear hK K
                  try simp only [Act.put, List.setIfInBounds_toArray, List.set_cons_zero, List.set_cons_succ]
                  refine wpAnyH_ready (rs := [11]) (by kernel_rfl) (by simp) ?_
                  refine AllReadyH.cons rfl (fun K hK => ?_) ?_
                  · go_simp
                    refine (pick_any B r (q + 53 * k + 1 + 44) 6 _ HI25.out.rd (by omega) (by omega) (by omega)).mono ?_
                    rintro e W26 ⟨x6, rfl, hx6, hr5, hg5⟩
                    have HI26 : Hid (WI B r (q + 53 * k + 1 + 44 + 1) w W26 u3 L) := HI25.out.step hg5 hr5
                    have HH26 : Hid (Bx 9 W26 (w.heap.size + 1) house4) := HH25.out.grown hg5 (fun e => hrH (Option.some.inj e))
                    have hc26 : W26.cell? ⟨w.heap.size + 1, k, none⟩ = some (.string hs) := house_same HH25.out HH26.out hc25
                    have HZ26 : Hid (Bx 3 W26 W1.heap.size intsW) := HZ25.out.grown hg5 (hneZ _ hb1)
                    have HX26 : Hid (Bx 112 W26 W21.heap.size #[.string ⟨#[]⟩, .string ⟨#[]⟩, .string ⟨#[]⟩, .int .i64 0]) := HX25.out.grown hg5 (hneZ _ hb21)
                    have hl26 : w2.heap.size ≤ W26.heap.size := Nat.le_trans hl25 hg5.size
                    clear hr5 hg5
                    have hx6i : (x6 : Int) < 6 := by omega
                    have hx6z : (0 : Int) ≤ (x6 : Int) := by omega
                    refine hK.out _ _ ?_ (fun hHeld => ?_)
                    · exact hc26
                    clear hK K
                    try simp only [Act.put, List.setIfInBounds_toArray, List.set_cons_zero, List.set_cons_succ]
                    refine wpAnyH_take (i := 12) (oi := ({ dst := some 32, op := Go.Op.indexAddr 51 (Go.Operand.tmp 29) (Go.Operand.tmp 31), type := 0, pos := "l71_draw.go:277", after := #[{ on := 9, ground := Go.Ground.data }, { on := 11, ground := Go.Ground.data }], guard := none } : Oper)) (v := ?_) rfl (by kernel_rfl) (by kernel_rfl) (by kernel_rfl) (fun _ _ _ h => h) (Or.inl ⟨by rfl, ?_⟩) hHeld ?_
                    rotate_left
                    · (intro w hSw; (try dsimp only at hSw); go_simp; try with_reducible rfl)
                    try simp only [Act.put, List.setIfInBounds_toArray, List.set_cons_zero, List.set_cons_succ]
                    refine wpAnyH_ready (rs := [13]) (by kernel_rfl) (by simp) ?_
                    refine AllReadyH.cons rfl (fun K hK => ?_) ?_
                    · obtain ⟨z, hz, hz0, hz9⟩ := ints_at HZ26.out x6 (by omega)
                      go_simp
                      refine hK.out _ _ ?_ (fun hHeld => ?_)
                      · exact hc26
                      clear hK K
                      try simp only [Act.put, List.setIfInBounds_toArray, List.set_cons_zero, List.set_cons_succ]
                      refine wpAnyH_take (i := 14) (oi := ({ dst := some 34, op := Go.Op.build 112 #[(0, Go.Operand.tmp 25), (1, Go.Operand.tmp 28), (3, Go.Operand.tmp 33)], type := 112, pos := "l71_draw.go:277", after := #[{ on := 5, ground := Go.Ground.data }, { on := 8, ground := Go.Ground.data }, { on := 13, ground := Go.Ground.data }], guard := none } : Oper)) (v := ?_) rfl (by kernel_rfl) (by kernel_rfl) (by kernel_rfl) (fun _ _ _ h => h) (Or.inl ⟨by rfl, ?_⟩) hHeld ?_
                      rotate_left
                      · (intro w hSw; (try dsimp only at hSw); go_simp; try with_reducible rfl)
                      try simp only [Act.put, List.setIfInBounds_toArray, List.set_cons_zero, List.set_cons_succ]
                      refine wpAnyH_ready (rs := [16]) (by kernel_rfl) (by simp) ?_
                      refine AllReadyH.cons rfl (fun K hK => ?_) ?_
                      · have p0 := HX26.out.cell 0 rfl
                        have p1 := HX26.out.cell 1 rfl
                        have p2 := HX26.out.cell 2 rfl
                        have p3 := HX26.out.cell 3 rfl
                        have pf := HX26.out.free
                        go_simp
                        refine hK.out _ _ ?_ (fun hHeld => ?_)
                        · exact house_same HH26.out (house_set (house_set (house_set (house_set HH26.out (hne21 0) _) (hne21 1) _) (hne21 2) _) (hne21 3) _) hc26
                        clear hK K
                        try simp only [Act.put, List.setIfInBounds_toArray, List.set_cons_zero, List.set_cons_succ]
                        refine wpAnyH_done (by kernel_rfl) ?_ _
                        go_wp2_with fail
                        go_meet
                        refine ⟨W21.heap.size, nt, z, rfl, hns, hz0, hz9, ?_, ?_, ?_, hb21, fun b hb e => by have := HVT.out b hb; have := hl21; omega⟩
                        · exact (((HX26.out.set 0 _).set 1 _).set 2 _).set 3 _
                        · exact (((HI26.out.set HX26.out hb21 hv21 0 _).set (HX26.out.set 0 _) hb21 hv21 1 _).set ((HX26.out.set 0 _).set 1 _) hb21 hv21 2 _).set (((HX26.out.set 0 _).set 1 _).set 2 _) hb21 hv21 3 _
                        · exact house_set (house_set (house_set (house_set HH26.out (hne21 0) _) (hne21 1) _) (hne21 2) _) (hne21 3) _
                      exact AllReadyH.nil
                    exact AllReadyH.nil
                  exact AllReadyH.nil
                exact AllReadyH.nil
              refine AllReadyH.cons rfl (fun K hK => ?_) ?_
              · go_simp
                obtain ⟨W27, hW27⟩ : ∃ W, W = W20.alloc (.cells #[.string ⟨#[]⟩, .string ⟨#[]⟩, .string ⟨#[]⟩, .int .i64 0] 112) := ⟨_, rfl⟩
                rw [← hW27]
                have HI27 : Hid (WI B r (q + 53 * k + 1 + 44) w W27 u3 L) := by rw [hW27]; exact HI20.out.alloc _
                have HH27 : Hid (Bx 9 W27 (w.heap.size + 1) house4) := by rw [hW27]; exact HH20.out.alloc _
                have hc27 : W27.cell? ⟨w.heap.size + 1, k, none⟩ = some (.string hs) := house_same HH20.out HH27.out hc20
                have hl27 : w2.heap.size ≤ W27.heap.size := by rw [hW27]; simp; omega
                have hb20 : w.heap.size < W20.heap.size := Nat.lt_of_lt_of_le hw2 hl20
                have HG27 : Hid (IsRows FGr W27 a3 c3 Lg ∧ GrsAt W27 Lg) := by rw [hW27]; exact ⟨IsRows.keep HG20.out.1 (alloc_keep _ _), GrsAt.keep HG20.out.2 (alloc_keep _ _)⟩
                have HZ27 : Hid (Bx 3 W27 W1.heap.size intsW) := by rw [hW27]; exact HZ20.out.alloc _
                have HX27 : Hid (Bx 112 W27 W20.heap.size #[.string ⟨#[]⟩, .string ⟨#[]⟩, .string ⟨#[]⟩, .int .i64 0]) := by rw [hW27]; exact Bx.new _ _ _
                have hv20 : u3.ownBlock ≠ some W20.heap.size := fun e => by have := HVT.out _ e; omega
                have hne20 : ∀ j : Nat, (⟨W20.heap.size, j, none⟩ : Addr).block ≠ w.heap.size + 1 := fun j e => by have e' : W20.heap.size = w.heap.size + 1 := e; omega
                clear hW27
                refine hK.out _ _ ?_ (fun hHeld => ?_)
                · exact hc27
                clear hK K
                try simp only [Act.put, List.setIfInBounds_toArray, List.set_cons_zero, List.set_cons_succ]
                refine wpAnyH_ready (rs := [8]) (by kernel_rfl) (by simp) ?_
                refine AllReadyH.cons rfl (fun K hK => ?_) ?_
                · go_simp
                  refine (specNText_any a3 c3 Lg _ HG27.out.1 HG27.out.2 (fun g hg => (HBG.out g hg).sz) (by omega)).mono ?_
                  rintro e W28 ⟨rfl, hb4⟩
                  have hns := notice_ok Lg
                  have HI28 : Hid (WI B r (q + 53 * k + 1 + 44) w W28 u3 L) := HI27.out.below hb4
                  have HH28 : Hid (Bx 9 W28 (w.heap.size + 1) house4) := HH27.out.keep (fun k hk => hb4.block k hk)
                  have hc28 : W28.cell? ⟨w.heap.size + 1, k, none⟩ = some (.string hs) := house_same HH27.out HH28.out hc27
                  have HZ28 : Hid (Bx 3 W28 W1.heap.size intsW) := HZ27.out.keep (fun k hk => hb4.block k hk)
                  have HX28 : Hid (Bx 112 W28 W20.heap.size #[.string ⟨#[]⟩, .string ⟨#[]⟩, .string ⟨#[]⟩, .int .i64 0]) := HX27.out.keep (fun k hk => hb4.block k hk)
                  have hl28 : w2.heap.size ≤ W28.heap.size := Nat.le_trans hl27 hb4.size
                  clear hb4
                  generalize ntS Lg = nt at *
                  refine hK.out _ _ ?_ (fun hHeld => ?_)
                  · exact hc28
                  clear hK K
                  try simp only [Act.put, List.setIfInBounds_toArray, List.set_cons_zero, List.set_cons_succ]
                  refine wpAnyH_ready (rs := [11]) (by kernel_rfl) (by simp) ?_
                  refine AllReadyH.cons rfl (fun K hK => ?_) ?_
                  · go_simp
                    refine (pick_any B r (q + 53 * k + 1 + 44) 6 _ HI28.out.rd (by omega) (by omega) (by omega)).mono ?_
                    rintro e W29 ⟨x6, rfl, hx6, hr5, hg5⟩
                    have HI29 : Hid (WI B r (q + 53 * k + 1 + 44 + 1) w W29 u3 L) := HI28.out.step hg5 hr5
                    have HH29 : Hid (Bx 9 W29 (w.heap.size + 1) house4) := HH28.out.grown hg5 (fun e => hrH (Option.some.inj e))
                    have hc29 : W29.cell? ⟨w.heap.size + 1, k, none⟩ = some (.string hs) := house_same HH28.out HH29.out hc28
                    have HZ29 : Hid (Bx 3 W29 W1.heap.size intsW) := HZ28.out.grown hg5 (hneZ _ hb1)
                    have HX29 : Hid (Bx 112 W29 W20.heap.size #[.string ⟨#[]⟩, .string ⟨#[]⟩, .string ⟨#[]⟩, .int .i64 0]) := HX28.out.grown hg5 (hneZ _ hb20)
                    have hl29 : w2.heap.size ≤ W29.heap.size := Nat.le_trans hl28 hg5.size
                    clear hr5 hg5
                    have hx6i : (x6 : Int) < 6 := by omega
                    have hx6z : (0 : Int) ≤ (x6 : Int) := by omega
                    refine hK.out _ _ ?_ (fun hHeld => ?_)
                    · exact hc29
                    clear hK K
                    try simp only [Act.put, List.setIfInBounds_toArray, List.set_cons_zero, List.set_cons_succ]
                    refine wpAnyH_take (i := 12) (oi := ({ dst := some 32, op := Go.Op.indexAddr 51 (Go.Operand.tmp 29) (Go.Operand.tmp 31), type := 0, pos := "l71_draw.go:277", after := #[{ on := 9, ground := Go.Ground.data }, { on := 11, ground := Go.Ground.data }], guard := none } : Oper)) (v := ?_) rfl (by kernel_rfl) (by kernel_rfl) (by kernel_rfl) (fun _ _ _ h => h) (Or.inl ⟨by rfl, ?_⟩) hHeld ?_
                    rotate_left
                    · (intro w hSw; (try dsimp only at hSw); go_simp; try with_reducible rfl)
                    try simp only [Act.put, List.setIfInBounds_toArray, List.set_cons_zero, List.set_cons_succ]
                    refine wpAnyH_ready (rs := [13]) (by kernel_rfl) (by simp) ?_
                    refine AllReadyH.cons rfl (fun K hK => ?_) ?_
                    · obtain ⟨z, hz, hz0, hz9⟩ := ints_at HZ29.out x6 (by omega)
                      go_simp
                      refine hK.out _ _ ?_ (fun hHeld => ?_)
                      · exact hc29
                      clear hK K
                      try simp only [Act.put, List.setIfInBounds_toArray, List.set_cons_zero, List.set_cons_succ]
                      refine wpAnyH_take (i := 14) (oi := ({ dst := some 34, op := Go.Op.build 112 #[(0, Go.Operand.tmp 25), (1, Go.Operand.tmp 28), (3, Go.Operand.tmp 33)], type := 112, pos := "l71_draw.go:277", after := #[{ on := 5, ground := Go.Ground.data }, { on := 8, ground := Go.Ground.data }, { on := 13, ground := Go.Ground.data }], guard := none } : Oper)) (v := ?_) rfl (by kernel_rfl) (by kernel_rfl) (by kernel_rfl) (fun _ _ _ h => h) (Or.inl ⟨by rfl, ?_⟩) hHeld ?_
                      rotate_left
                      · (intro w hSw; (try dsimp only at hSw); go_simp; try with_reducible rfl)
                      try simp only [Act.put, List.setIfInBounds_toArray, List.set_cons_zero, List.set_cons_succ]
                      refine wpAnyH_ready (rs := [16]) (by kernel_rfl) (by simp) ?_
                      refine AllReadyH.cons rfl (fun K hK => ?_) ?_
                      · have p0 := HX29.out.cell 0 rfl
                        have p1 := HX29.out.cell 1 rfl
                        have p2 := HX29.out.cell 2 rfl
                        have p3 := HX29.out.cell 3 rfl
                        have pf := HX29.out.free
                        go_simp
                        refine hK.out _ _ ?_ (fun hHeld => ?_)
                        · exact house_same HH29.out (house_set (house_set (house_set (house_set HH29.out (hne20 0) _) (hne20 1) _) (hne20 2) _) (hne20 3) _) hc29
                        clear hK K
                        try simp only [Act.put, List.setIfInBounds_toArray, List.set_cons_zero, List.set_cons_succ]
                        refine wpAnyH_done (by kernel_rfl) ?_ _
                        go_wp2_with fail
                        go_meet
                        refine ⟨W20.heap.size, nt, z, rfl, hns, hz0, hz9, ?_, ?_, ?_, hb20, fun b hb e => by have := HVT.out b hb; have := hl20; omega⟩
                        · exact (((HX29.out.set 0 _).set 1 _).set 2 _).set 3 _
                        · exact (((HI29.out.set HX29.out hb20 hv20 0 _).set (HX29.out.set 0 _) hb20 hv20 1 _).set ((HX29.out.set 0 _).set 1 _) hb20 hv20 2 _).set (((HX29.out.set 0 _).set 1 _).set 2 _) hb20 hv20 3 _
                        · exact house_set (house_set (house_set (house_set HH29.out (hne20 0) _) (hne20 1) _) (hne20 2) _) (hne20 3) _
                      exact AllReadyH.nil
                    exact AllReadyH.nil
                  exact AllReadyH.nil
                exact AllReadyH.nil
              exact AllReadyH.nil
            refine AllReadyH.cons rfl (fun K hK => ?_) ?_
            · go_simp
              obtain ⟨W30, hW30⟩ : ∃ W, W = W1.alloc (.cells #[.string ⟨#[]⟩, .string ⟨#[]⟩, .string ⟨#[]⟩, .int .i64 0] 112) := ⟨_, rfl⟩
              rw [← hW30]
              have HI30 : Hid (WI B r (q + 53 * k + 1 + 44) w W30 u3 L) := by rw [hW30]; exact HI1.out.alloc _
              have HH30 : Hid (Bx 9 W30 (w.heap.size + 1) house4) := by rw [hW30]; exact HH1.out.alloc _
              have hc30 : W30.cell? ⟨w.heap.size + 1, k, none⟩ = some (.string hs) := house_same HH1.out HH30.out hc1
              have hl30 : w2.heap.size ≤ W30.heap.size := by rw [hW30]; simp; omega
              have hb1 : w.heap.size < W1.heap.size := Nat.lt_of_lt_of_le hw2 hl1
              have HG30 : Hid (IsRows FGr W30 a3 c3 Lg ∧ GrsAt W30 Lg) := by rw [hW30]; exact ⟨IsRows.keep HG1.out.1 (alloc_keep _ _), GrsAt.keep HG1.out.2 (alloc_keep _ _)⟩
              have HX30 : Hid (Bx 112 W30 W1.heap.size #[.string ⟨#[]⟩, .string ⟨#[]⟩, .string ⟨#[]⟩, .int .i64 0]) := by rw [hW30]; exact Bx.new _ _ _
              have hv1 : u3.ownBlock ≠ some W1.heap.size := fun e => by have := HVT.out _ e; omega
              have hne1 : ∀ j : Nat, (⟨W1.heap.size, j, none⟩ : Addr).block ≠ w.heap.size + 1 := fun j e => by have e' : W1.heap.size = w.heap.size + 1 := e; omega
              clear hW30
              refine hK.out _ _ ?_ (fun hHeld => ?_)
              · exact hc30
              clear hK K
              try simp only [Act.put, List.setIfInBounds_toArray, List.set_cons_zero, List.set_cons_succ]
              refine wpAnyH_ready (rs := [8, 9]) (by kernel_rfl) (by simp) ?_
              refine AllReadyH.cons rfl (fun K hK => ?_) ?_
              · go_simp
                refine (specNText_any a3 c3 Lg _ HG30.out.1 HG30.out.2 (fun g hg => (HBG.out g hg).sz) (by omega)).mono ?_
                rintro e W31 ⟨rfl, hb4⟩
                have hns := notice_ok Lg
                have HI31 : Hid (WI B r (q + 53 * k + 1 + 44) w W31 u3 L) := HI30.out.below hb4
                have HH31 : Hid (Bx 9 W31 (w.heap.size + 1) house4) := HH30.out.keep (fun k hk => hb4.block k hk)
                have hc31 : W31.cell? ⟨w.heap.size + 1, k, none⟩ = some (.string hs) := house_same HH30.out HH31.out hc30
                have HX31 : Hid (Bx 112 W31 W1.heap.size #[.string ⟨#[]⟩, .string ⟨#[]⟩, .string ⟨#[]⟩, .int .i64 0]) := HX30.out.keep (fun k hk => hb4.block k hk)
                have hl31 : w2.heap.size ≤ W31.heap.size := Nat.le_trans hl30 hb4.size
                clear hb4
                generalize ntS Lg = nt at *
                refine hK.out _ _ ?_ (fun hHeld => ?_)
                · exact hc31
                clear hK K
                try simp only [Act.put, List.setIfInBounds_toArray, List.set_cons_zero, List.set_cons_succ]
                refine wpAnyH_ready (rs := [9, 11]) (by kernel_rfl) (by simp) ?_
                refine AllReadyH.cons rfl (fun K hK => ?_) ?_
                · go_simp
                  obtain ⟨W32, hW32⟩ : ∃ W, W = W31.alloc (.cells #[.int .i64 0, .int .i64 0, .int .i64 0, .int .i64 1, .int .i64 2, .int .i64 5] 3) := ⟨_, rfl⟩
                  rw [← hW32]
                  have HI32 : Hid (WI B r (q + 53 * k + 1 + 44) w W32 u3 L) := by rw [hW32]; exact HI31.out.alloc _
                  have HH32 : Hid (Bx 9 W32 (w.heap.size + 1) house4) := by rw [hW32]; exact HH31.out.alloc _
                  have hc32 : W32.cell? ⟨w.heap.size + 1, k, none⟩ = some (.string hs) := house_same HH31.out HH32.out hc31
                  have hl32 : w2.heap.size ≤ W32.heap.size := by rw [hW32]; simp; omega
                  have hb31 : w.heap.size < W31.heap.size := Nat.lt_of_lt_of_le hw2 hl31
                  have HZ32 : Hid (Bx 3 W32 W31.heap.size intsW) := by rw [hW32]; exact Bx.new _ _ _
                  have HX32 : Hid (Bx 112 W32 W1.heap.size #[.string ⟨#[]⟩, .string ⟨#[]⟩, .string ⟨#[]⟩, .int .i64 0]) := by rw [hW32]; exact HX31.out.alloc _
                  clear hW32
                  refine hK.out _ _ ?_ (fun hHeld => ?_)
                  · exact hc32
                  clear hK K
                  try simp only [Act.put, List.setIfInBounds_toArray, List.set_cons_zero, List.set_cons_succ]
                  refine wpAnyH_ready (rs := [11]) (by kernel_rfl) (by simp) ?_
                  refine AllReadyH.cons rfl (fun K hK => ?_) ?_
                  · go_simp
                    refine (pick_any B r (q + 53 * k + 1 + 44) 6 _ HI32.out.rd (by omega) (by omega) (by omega)).mono ?_
                    rintro e W33 ⟨x6, rfl, hx6, hr5, hg5⟩
                    have HI33 : Hid (WI B r (q + 53 * k + 1 + 44 + 1) w W33 u3 L) := HI32.out.step hg5 hr5
                    have HH33 : Hid (Bx 9 W33 (w.heap.size + 1) house4) := HH32.out.grown hg5 (fun e => hrH (Option.some.inj e))
                    have hc33 : W33.cell? ⟨w.heap.size + 1, k, none⟩ = some (.string hs) := house_same HH32.out HH33.out hc32
                    have HZ33 : Hid (Bx 3 W33 W31.heap.size intsW) := HZ32.out.grown hg5 (hneZ _ hb31)
                    have HX33 : Hid (Bx 112 W33 W1.heap.size #[.string ⟨#[]⟩, .string ⟨#[]⟩, .string ⟨#[]⟩, .int .i64 0]) := HX32.out.grown hg5 (hneZ _ hb1)
                    have hl33 : w2.heap.size ≤ W33.heap.size := Nat.le_trans hl32 hg5.size
                    clear hr5 hg5
                    have hx6i : (x6 : Int) < 6 := by omega
                    have hx6z : (0 : Int) ≤ (x6 : Int) := by omega
                    refine hK.out _ _ ?_ (fun hHeld => ?_)
                    · exact hc33
                    clear hK K
                    try simp only [Act.put, List.setIfInBounds_toArray, List.set_cons_zero, List.set_cons_succ]
                    refine wpAnyH_take (i := 12) (oi := ({ dst := some 32, op := Go.Op.indexAddr 51 (Go.Operand.tmp 29) (Go.Operand.tmp 31), type := 0, pos := "l71_draw.go:277", after := #[{ on := 9, ground := Go.Ground.data }, { on := 11, ground := Go.Ground.data }], guard := none } : Oper)) (v := ?_) rfl (by kernel_rfl) (by kernel_rfl) (by kernel_rfl) (fun _ _ _ h => h) (Or.inl ⟨by rfl, ?_⟩) hHeld ?_
                    rotate_left
                    · (intro w hSw; (try dsimp only at hSw); go_simp; try with_reducible rfl)
                    try simp only [Act.put, List.setIfInBounds_toArray, List.set_cons_zero, List.set_cons_succ]
                    refine wpAnyH_ready (rs := [13]) (by kernel_rfl) (by simp) ?_
                    refine AllReadyH.cons rfl (fun K hK => ?_) ?_
                    · obtain ⟨z, hz, hz0, hz9⟩ := ints_at HZ33.out x6 (by omega)
                      go_simp
                      refine hK.out _ _ ?_ (fun hHeld => ?_)
                      · exact hc33
                      clear hK K
                      try simp only [Act.put, List.setIfInBounds_toArray, List.set_cons_zero, List.set_cons_succ]
                      refine wpAnyH_take (i := 14) (oi := ({ dst := some 34, op := Go.Op.build 112 #[(0, Go.Operand.tmp 25), (1, Go.Operand.tmp 28), (3, Go.Operand.tmp 33)], type := 112, pos := "l71_draw.go:277", after := #[{ on := 5, ground := Go.Ground.data }, { on := 8, ground := Go.Ground.data }, { on := 13, ground := Go.Ground.data }], guard := none } : Oper)) (v := ?_) rfl (by kernel_rfl) (by kernel_rfl) (by kernel_rfl) (fun _ _ _ h => h) (Or.inl ⟨by rfl, ?_⟩) hHeld ?_
                      rotate_left
                      · (intro w hSw; (try dsimp only at hSw); go_simp; try with_reducible rfl)
                      try simp only [Act.put, List.setIfInBounds_toArray, List.set_cons_zero, List.set_cons_succ]
                      refine wpAnyH_ready (rs := [16]) (by kernel_rfl) (by simp) ?_
                      refine AllReadyH.cons rfl (fun K hK => ?_) ?_
                      · have p0 := HX33.out.cell 0 rfl
                        have p1 := HX33.out.cell 1 rfl
                        have p2 := HX33.out.cell 2 rfl
                        have p3 := HX33.out.cell 3 rfl
                        have pf := HX33.out.free
                        go_simp
                        refine hK.out _ _ ?_ (fun hHeld => ?_)
                        · exact house_same HH33.out (house_set (house_set (house_set (house_set HH33.out (hne1 0) _) (hne1 1) _) (hne1 2) _) (hne1 3) _) hc33
                        clear hK K
                        try simp only [Act.put, List.setIfInBounds_toArray, List.set_cons_zero, List.set_cons_succ]
                        refine wpAnyH_done (by kernel_rfl) ?_ _
                        go_wp2_with fail
                        go_meet
                        refine ⟨W1.heap.size, nt, z, rfl, hns, hz0, hz9, ?_, ?_, ?_, hb1, fun b hb e => by have := HVT.out b hb; have := hl1; omega⟩
                        · exact (((HX33.out.set 0 _).set 1 _).set 2 _).set 3 _
                        · exact (((HI33.out.set HX33.out hb1 hv1 0 _).set (HX33.out.set 0 _) hb1 hv1 1 _).set ((HX33.out.set 0 _).set 1 _) hb1 hv1 2 _).set (((HX33.out.set 0 _).set 1 _).set 2 _) hb1 hv1 3 _
                        · exact house_set (house_set (house_set (house_set HH33.out (hne1 0) _) (hne1 1) _) (hne1 2) _) (hne1 3) _
                      exact AllReadyH.nil
                    exact AllReadyH.nil
                  exact AllReadyH.nil
                refine AllReadyH.cons rfl (fun K hK => ?_) ?_
                · go_simp
                  refine (pick_any B r (q + 53 * k + 1 + 44) 6 _ HI31.out.rd (by omega) (by omega) (by omega)).mono ?_
                  rintro e W34 ⟨x6, rfl, hx6, hr5, hg5⟩
                  have HI34 : Hid (WI B r (q + 53 * k + 1 + 44 + 1) w W34 u3 L) := HI31.out.step hg5 hr5
                  have HH34 : Hid (Bx 9 W34 (w.heap.size + 1) house4) := HH31.out.grown hg5 (fun e => hrH (Option.some.inj e))
                  have hc34 : W34.cell? ⟨w.heap.size + 1, k, none⟩ = some (.string hs) := house_same HH31.out HH34.out hc31
                  have HX34 : Hid (Bx 112 W34 W1.heap.size #[.string ⟨#[]⟩, .string ⟨#[]⟩, .string ⟨#[]⟩, .int .i64 0]) := HX31.out.grown hg5 (hneZ _ hb1)
                  have hl34 : w2.heap.size ≤ W34.heap.size := Nat.le_trans hl31 hg5.size
                  clear hr5 hg5
                  have hx6i : (x6 : Int) < 6 := by omega
                  have hx6z : (0 : Int) ≤ (x6 : Int) := by omega
                  refine hK.out _ _ ?_ (fun hHeld => ?_)
                  · exact hc34
                  clear hK K
                  try simp only [Act.put, List.setIfInBounds_toArray, List.set_cons_zero, List.set_cons_succ]
                  refine wpAnyH_ready (rs := [9]) (by kernel_rfl) (by simp) ?_
                  refine AllReadyH.cons rfl (fun K hK => ?_) ?_
                  · go_simp
                    obtain ⟨W35, hW35⟩ : ∃ W, W = W34.alloc (.cells #[.int .i64 0, .int .i64 0, .int .i64 0, .int .i64 1, .int .i64 2, .int .i64 5] 3) := ⟨_, rfl⟩
                    rw [← hW35]
                    have HI35 : Hid (WI B r (q + 53 * k + 1 + 44 + 1) w W35 u3 L) := by rw [hW35]; exact HI34.out.alloc _
                    have HH35 : Hid (Bx 9 W35 (w.heap.size + 1) house4) := by rw [hW35]; exact HH34.out.alloc _
                    have hc35 : W35.cell? ⟨w.heap.size + 1, k, none⟩ = some (.string hs) := house_same HH34.out HH35.out hc34
                    have hl35 : w2.heap.size ≤ W35.heap.size := by rw [hW35]; simp; omega
                    have hb34 : w.heap.size < W34.heap.size := Nat.lt_of_lt_of_le hw2 hl34
                    have HZ35 : Hid (Bx 3 W35 W34.heap.size intsW) := by rw [hW35]; exact Bx.new _ _ _
                    have HX35 : Hid (Bx 112 W35 W1.heap.size #[.string ⟨#[]⟩, .string ⟨#[]⟩, .string ⟨#[]⟩, .int .i64 0]) := by rw [hW35]; exact HX34.out.alloc _
                    clear hW35
                    refine hK.out _ _ ?_ (fun hHeld => ?_)
                    · exact hc35
                    clear hK K
                    try simp only [Act.put, List.setIfInBounds_toArray, List.set_cons_zero, List.set_cons_succ]
                    refine wpAnyH_take (i := 12) (oi := ({ dst := some 32, op := Go.Op.indexAddr 51 (Go.Operand.tmp 29) (Go.Operand.tmp 31), type := 0, pos := "l71_draw.go:277", after := #[{ on := 9, ground := Go.Ground.data }, { on := 11, ground := Go.Ground.data }], guard := none } : Oper)) (v := ?_) rfl (by kernel_rfl) (by kernel_rfl) (by kernel_rfl) (fun _ _ _ h => h) (Or.inl ⟨by rfl, ?_⟩) hHeld ?_
                    rotate_left
                    · (intro w hSw; (try dsimp only at hSw); go_simp; try with_reducible rfl)
                    try simp only [Act.put, List.setIfInBounds_toArray, List.set_cons_zero, List.set_cons_succ]
                    refine wpAnyH_ready (rs := [13]) (by kernel_rfl) (by simp) ?_
                    refine AllReadyH.cons rfl (fun K hK => ?_) ?_
                    · obtain ⟨z, hz, hz0, hz9⟩ := ints_at HZ35.out x6 (by omega)
                      go_simp
                      refine hK.out _ _ ?_ (fun hHeld => ?_)
                      · exact hc35
                      clear hK K
                      try simp only [Act.put, List.setIfInBounds_toArray, List.set_cons_zero, List.set_cons_succ]
                      refine wpAnyH_take (i := 14) (oi := ({ dst := some 34, op := Go.Op.build 112 #[(0, Go.Operand.tmp 25), (1, Go.Operand.tmp 28), (3, Go.Operand.tmp 33)], type := 112, pos := "l71_draw.go:277", after := #[{ on := 5, ground := Go.Ground.data }, { on := 8, ground := Go.Ground.data }, { on := 13, ground := Go.Ground.data }], guard := none } : Oper)) (v := ?_) rfl (by kernel_rfl) (by kernel_rfl) (by kernel_rfl) (fun _ _ _ h => h) (Or.inl ⟨by rfl, ?_⟩) hHeld ?_
                      rotate_left
                      · (intro w hSw; (try dsimp only at hSw); go_simp; try with_reducible rfl)
                      try simp only [Act.put, List.setIfInBounds_toArray, List.set_cons_zero, List.set_cons_succ]
                      refine wpAnyH_ready (rs := [16]) (by kernel_rfl) (by simp) ?_
                      refine AllReadyH.cons rfl (fun K hK => ?_) ?_
                      · have p0 := HX35.out.cell 0 rfl
                        have p1 := HX35.out.cell 1 rfl
                        have p2 := HX35.out.cell 2 rfl
                        have p3 := HX35.out.cell 3 rfl
                        have pf := HX35.out.free
                        go_simp
                        refine hK.out _ _ ?_ (fun hHeld => ?_)
                        · exact house_same HH35.out (house_set (house_set (house_set (house_set HH35.out (hne1 0) _) (hne1 1) _) (hne1 2) _) (hne1 3) _) hc35
                        clear hK K
                        try simp only [Act.put, List.setIfInBounds_toArray, List.set_cons_zero, List.set_cons_succ]
                        refine wpAnyH_done (by kernel_rfl) ?_ _
                        go_wp2_with fail
                        go_meet
                        refine ⟨W1.heap.size, nt, z, rfl, hns, hz0, hz9, ?_, ?_, ?_, hb1, fun b hb e => by have := HVT.out b hb; have := hl1; omega⟩
                        · exact (((HX35.out.set 0 _).set 1 _).set 2 _).set 3 _
                        · exact (((HI35.out.set HX35.out hb1 hv1 0 _).set (HX35.out.set 0 _) hb1 hv1 1 _).set ((HX35.out.set 0 _).set 1 _) hb1 hv1 2 _).set (((HX35.out.set 0 _).set 1 _).set 2 _) hb1 hv1 3 _
                        · exact house_set (house_set (house_set (house_set HH35.out (hne1 0) _) (hne1 1) _) (hne1 2) _) (hne1 3) _
                      exact AllReadyH.nil
                    exact AllReadyH.nil
                  exact AllReadyH.nil
                exact AllReadyH.nil
              refine AllReadyH.cons rfl (fun K hK => ?_) ?_
              · go_simp
                obtain ⟨W36, hW36⟩ : ∃ W, W = W30.alloc (.cells #[.int .i64 0, .int .i64 0, .int .i64 0, .int .i64 1, .int .i64 2, .int .i64 5] 3) := ⟨_, rfl⟩
                rw [← hW36]
                have HI36 : Hid (WI B r (q + 53 * k + 1 + 44) w W36 u3 L) := by rw [hW36]; exact HI30.out.alloc _
                have HH36 : Hid (Bx 9 W36 (w.heap.size + 1) house4) := by rw [hW36]; exact HH30.out.alloc _
                have hc36 : W36.cell? ⟨w.heap.size + 1, k, none⟩ = some (.string hs) := house_same HH30.out HH36.out hc30
                have hl36 : w2.heap.size ≤ W36.heap.size := by rw [hW36]; simp; omega
                have hb30 : w.heap.size < W30.heap.size := Nat.lt_of_lt_of_le hw2 hl30
                have HG36 : Hid (IsRows FGr W36 a3 c3 Lg ∧ GrsAt W36 Lg) := by rw [hW36]; exact ⟨IsRows.keep HG30.out.1 (alloc_keep _ _), GrsAt.keep HG30.out.2 (alloc_keep _ _)⟩
                have HZ36 : Hid (Bx 3 W36 W30.heap.size intsW) := by rw [hW36]; exact Bx.new _ _ _
                have HX36 : Hid (Bx 112 W36 W1.heap.size #[.string ⟨#[]⟩, .string ⟨#[]⟩, .string ⟨#[]⟩, .int .i64 0]) := by rw [hW36]; exact HX30.out.alloc _
                clear hW36
                refine hK.out _ _ ?_ (fun hHeld => ?_)
                · exact hc36
                clear hK K
                try simp only [Act.put, List.setIfInBounds_toArray, List.set_cons_zero, List.set_cons_succ]
                refine wpAnyH_ready (rs := [8]) (by kernel_rfl) (by simp) ?_
                refine AllReadyH.cons rfl (fun K hK => ?_) ?_
                · go_simp
                  refine (specNText_any a3 c3 Lg _ HG36.out.1 HG36.out.2 (fun g hg => (HBG.out g hg).sz) (by omega)).mono ?_
                  rintro e W37 ⟨rfl, hb4⟩
                  have hns := notice_ok Lg
                  have HI37 : Hid (WI B r (q + 53 * k + 1 + 44) w W37 u3 L) := HI36.out.below hb4
                  have HH37 : Hid (Bx 9 W37 (w.heap.size + 1) house4) := HH36.out.keep (fun k hk => hb4.block k hk)
                  have hc37 : W37.cell? ⟨w.heap.size + 1, k, none⟩ = some (.string hs) := house_same HH36.out HH37.out hc36
                  have HZ37 : Hid (Bx 3 W37 W30.heap.size intsW) := HZ36.out.keep (fun k hk => hb4.block k hk)
                  have HX37 : Hid (Bx 112 W37 W1.heap.size #[.string ⟨#[]⟩, .string ⟨#[]⟩, .string ⟨#[]⟩, .int .i64 0]) := HX36.out.keep (fun k hk => hb4.block k hk)
                  have hl37 : w2.heap.size ≤ W37.heap.size := Nat.le_trans hl36 hb4.size
                  clear hb4
                  generalize ntS Lg = nt at *
                  refine hK.out _ _ ?_ (fun hHeld => ?_)
                  · exact hc37
                  clear hK K
                  try simp only [Act.put, List.setIfInBounds_toArray, List.set_cons_zero, List.set_cons_succ]
                  refine wpAnyH_ready (rs := [11]) (by kernel_rfl) (by simp) ?_
                  refine AllReadyH.cons rfl (fun K hK => ?_) ?_
                  · go_simp
                    refine (pick_any B r (q + 53 * k + 1 + 44) 6 _ HI37.out.rd (by omega) (by omega) (by omega)).mono ?_
                    rintro e W38 ⟨x6, rfl, hx6, hr5, hg5⟩
                    have HI38 : Hid (WI B r (q + 53 * k + 1 + 44 + 1) w W38 u3 L) := HI37.out.step hg5 hr5
                    have HH38 : Hid (Bx 9 W38 (w.heap.size + 1) house4) := HH37.out.grown hg5 (fun e => hrH (Option.some.inj e))
                    have hc38 : W38.cell? ⟨w.heap.size + 1, k, none⟩ = some (.string hs) := house_same HH37.out HH38.out hc37
                    have HZ38 : Hid (Bx 3 W38 W30.heap.size intsW) := HZ37.out.grown hg5 (hneZ _ hb30)
                    have HX38 : Hid (Bx 112 W38 W1.heap.size #[.string ⟨#[]⟩, .string ⟨#[]⟩, .string ⟨#[]⟩, .int .i64 0]) := HX37.out.grown hg5 (hneZ _ hb1)
                    have hl38 : w2.heap.size ≤ W38.heap.size := Nat.le_trans hl37 hg5.size
                    clear hr5 hg5
                    have hx6i : (x6 : Int) < 6 := by omega
                    have hx6z : (0 : Int) ≤ (x6 : Int) := by omega
                    refine hK.out _ _ ?_ (fun hHeld => ?_)
                    · exact hc38
                    clear hK K
                    try simp only [Act.put, List.setIfInBounds_toArray, List.set_cons_zero, List.set_cons_succ]
                    refine wpAnyH_take (i := 12) (oi := ({ dst := some 32, op := Go.Op.indexAddr 51 (Go.Operand.tmp 29) (Go.Operand.tmp 31), type := 0, pos := "l71_draw.go:277", after := #[{ on := 9, ground := Go.Ground.data }, { on := 11, ground := Go.Ground.data }], guard := none } : Oper)) (v := ?_) rfl (by kernel_rfl) (by kernel_rfl) (by kernel_rfl) (fun _ _ _ h => h) (Or.inl ⟨by rfl, ?_⟩) hHeld ?_
                    rotate_left
                    · (intro w hSw; (try dsimp only at hSw); go_simp; try with_reducible rfl)
                    try simp only [Act.put, List.setIfInBounds_toArray, List.set_cons_zero, List.set_cons_succ]
                    refine wpAnyH_ready (rs := [13]) (by kernel_rfl) (by simp) ?_
                    refine AllReadyH.cons rfl (fun K hK => ?_) ?_
                    · obtain ⟨z, hz, hz0, hz9⟩ := ints_at HZ38.out x6 (by omega)
                      go_simp
                      refine hK.out _ _ ?_ (fun hHeld => ?_)
                      · exact hc38
                      clear hK K
                      try simp only [Act.put, List.setIfInBounds_toArray, List.set_cons_zero, List.set_cons_succ]
                      refine wpAnyH_take (i := 14) (oi := ({ dst := some 34, op := Go.Op.build 112 #[(0, Go.Operand.tmp 25), (1, Go.Operand.tmp 28), (3, Go.Operand.tmp 33)], type := 112, pos := "l71_draw.go:277", after := #[{ on := 5, ground := Go.Ground.data }, { on := 8, ground := Go.Ground.data }, { on := 13, ground := Go.Ground.data }], guard := none } : Oper)) (v := ?_) rfl (by kernel_rfl) (by kernel_rfl) (by kernel_rfl) (fun _ _ _ h => h) (Or.inl ⟨by rfl, ?_⟩) hHeld ?_
                      rotate_left
                      · (intro w hSw; (try dsimp only at hSw); go_simp; try with_reducible rfl)
                      try simp only [Act.put, List.setIfInBounds_toArray, List.set_cons_zero, List.set_cons_succ]
                      refine wpAnyH_ready (rs := [16]) (by kernel_rfl) (by simp) ?_
                      refine AllReadyH.cons rfl (fun K hK => ?_) ?_
                      · have p0 := HX38.out.cell 0 rfl
                        have p1 := HX38.out.cell 1 rfl
                        have p2 := HX38.out.cell 2 rfl
                        have p3 := HX38.out.cell 3 rfl
                        have pf := HX38.out.free
                        go_simp
                        refine hK.out _ _ ?_ (fun hHeld => ?_)
                        · exact house_same HH38.out (house_set (house_set (house_set (house_set HH38.out (hne1 0) _) (hne1 1) _) (hne1 2) _) (hne1 3) _) hc38
                        clear hK K
                        try simp only [Act.put, List.setIfInBounds_toArray, List.set_cons_zero, List.set_cons_succ]
                        refine wpAnyH_done (by kernel_rfl) ?_ _
                        go_wp2_with fail
                        go_meet
                        refine ⟨W1.heap.size, nt, z, rfl, hns, hz0, hz9, ?_, ?_, ?_, hb1, fun b hb e => by have := HVT.out b hb; have := hl1; omega⟩
                        · exact (((HX38.out.set 0 _).set 1 _).set 2 _).set 3 _
                        · exact (((HI38.out.set HX38.out hb1 hv1 0 _).set (HX38.out.set 0 _) hb1 hv1 1 _).set ((HX38.out.set 0 _).set 1 _) hb1 hv1 2 _).set (((HX38.out.set 0 _).set 1 _).set 2 _) hb1 hv1 3 _
                        · exact house_set (house_set (house_set (house_set HH38.out (hne1 0) _) (hne1 1) _) (hne1 2) _) (hne1 3) _
                      exact AllReadyH.nil
                    exact AllReadyH.nil
                  exact AllReadyH.nil
                exact AllReadyH.nil
              exact AllReadyH.nil
            exact AllReadyH.nil
          refine AllReadyH.cons rfl (fun K hK => ?_) ?_
          · go_simp
            obtain ⟨W39, hW39⟩ : ∃ W, W = W0.alloc (.cells #[.int .i64 0, .int .i64 0, .int .i64 0, .int .i64 1, .int .i64 2, .int .i64 5] 3) := ⟨_, rfl⟩
            rw [← hW39]
            have HI39 : Hid (WI B r (q + 53 * k + 1) w W39 u3 L) := by rw [hW39]; exact HI0.out.alloc _
            have HH39 : Hid (Bx 9 W39 (w.heap.size + 1) house4) := by rw [hW39]; exact HH0.out.alloc _
            have hc39 : W39.cell? ⟨w.heap.size + 1, k, none⟩ = some (.string hs) := house_same HH0.out HH39.out hc0
            have hl39 : w2.heap.size ≤ W39.heap.size := by rw [hW39]; simp; omega
            have hb0 : w.heap.size < W0.heap.size := Nat.lt_of_lt_of_le hw2 hl0
            have HZ39 : Hid (Bx 3 W39 W0.heap.size intsW) := by rw [hW39]; exact Bx.new _ _ _
            clear hW39
            refine hK.out _ _ ?_ (fun hHeld => ?_)
            · exact hc39
            clear hK K
            try simp only [Act.put, List.setIfInBounds_toArray, List.set_cons_zero, List.set_cons_succ]
            refine wpAnyH_ready (rs := [7, 15]) (by kernel_rfl) (by simp) ?_
            refine AllReadyH.cons rfl (fun K hK => ?_) ?_
            · go_simp
              refine (groups_any B r (q + 53 * k + 1) _ HI39.out.rd (by omega)).mono ?_
              rintro e W40 ⟨Lg, a3, c3, rfl, hGI, hAp, hlg, hbg⟩
              have HI40 : Hid (WI B r (q + 53 * k + 1 + 44) w W40 u3 L) := HI39.out.step hGI.2.2.2.1 hGI.2.2.1
              have HH40 : Hid (Bx 9 W40 (w.heap.size + 1) house4) := HH39.out.grown hGI.2.2.2.1 (fun e => hrH (Option.some.inj e))
              have hc40 : W40.cell? ⟨w.heap.size + 1, k, none⟩ = some (.string hs) := house_same HH39.out HH40.out hc39
              have HZ40 : Hid (Bx 3 W40 W0.heap.size intsW) := HZ39.out.grown hGI.2.2.2.1 (hneZ _ hb0)
              have HG40 : Hid (IsRows FGr W40 a3 c3 Lg ∧ GrsAt W40 Lg) := ⟨OwnsR.rowsOf hGI.1, hGI.2.1.at⟩
              have HBG : Hid (∀ g ∈ Lg, GrBd g) := hbg
              have hl40 : w2.heap.size ≤ W40.heap.size := Nat.le_trans hl39 hGI.2.2.2.1.size
              clear hGI hAp hbg
              refine hK.out _ _ ?_ (fun hHeld => ?_)
              · exact hc40
              clear hK K
              try simp only [Act.put, List.setIfInBounds_toArray, List.set_cons_zero, List.set_cons_succ]
              refine wpAnyH_ready (rs := [8, 15]) (by kernel_rfl) (by simp) ?_
              refine AllReadyH.cons rfl (fun K hK => ?_) ?_
              · go_simp
                refine (specNText_any a3 c3 Lg _ HG40.out.1 HG40.out.2 (fun g hg => (HBG.out g hg).sz) (by omega)).mono ?_
                rintro e W41 ⟨rfl, hb4⟩
                have hns := notice_ok Lg
                have HI41 : Hid (WI B r (q + 53 * k + 1 + 44) w W41 u3 L) := HI40.out.below hb4
                have HH41 : Hid (Bx 9 W41 (w.heap.size + 1) house4) := HH40.out.keep (fun k hk => hb4.block k hk)
                have hc41 : W41.cell? ⟨w.heap.size + 1, k, none⟩ = some (.string hs) := house_same HH40.out HH41.out hc40
                have HZ41 : Hid (Bx 3 W41 W0.heap.size intsW) := HZ40.out.keep (fun k hk => hb4.block k hk)
                have hl41 : w2.heap.size ≤ W41.heap.size := Nat.le_trans hl40 hb4.size
                clear hb4
                generalize ntS Lg = nt at *
                refine hK.out _ _ ?_ (fun hHeld => ?_)
                · exact hc41
                clear hK K
                try simp only [Act.put, List.setIfInBounds_toArray, List.set_cons_zero, List.set_cons_succ]
                refine wpAnyH_ready (rs := [11, 15]) (by kernel_rfl) (by simp) ?_
                refine AllReadyH.cons rfl (fun K hK => ?_) ?_
                · go_simp
                  refine (pick_any B r (q + 53 * k + 1 + 44) 6 _ HI41.out.rd (by omega) (by omega) (by omega)).mono ?_
                  rintro e W42 ⟨x6, rfl, hx6, hr5, hg5⟩
                  have HI42 : Hid (WI B r (q + 53 * k + 1 + 44 + 1) w W42 u3 L) := HI41.out.step hg5 hr5
                  have HH42 : Hid (Bx 9 W42 (w.heap.size + 1) house4) := HH41.out.grown hg5 (fun e => hrH (Option.some.inj e))
                  have hc42 : W42.cell? ⟨w.heap.size + 1, k, none⟩ = some (.string hs) := house_same HH41.out HH42.out hc41
                  have HZ42 : Hid (Bx 3 W42 W0.heap.size intsW) := HZ41.out.grown hg5 (hneZ _ hb0)
                  have hl42 : w2.heap.size ≤ W42.heap.size := Nat.le_trans hl41 hg5.size
                  clear hr5 hg5
                  have hx6i : (x6 : Int) < 6 := by omega
                  have hx6z : (0 : Int) ≤ (x6 : Int) := by omega
                  refine hK.out _ _ ?_ (fun hHeld => ?_)
                  · exact hc42
                  clear hK K
                  try simp only [Act.put, List.setIfInBounds_toArray, List.set_cons_zero, List.set_cons_succ]
                  refine wpAnyH_take (i := 12) (oi := ({ dst := some 32, op := Go.Op.indexAddr 51 (Go.Operand.tmp 29) (Go.Operand.tmp 31), type := 0, pos := "l71_draw.go:277", after := #[{ on := 9, ground := Go.Ground.data }, { on := 11, ground := Go.Ground.data }], guard := none } : Oper)) (v := ?_) rfl (by kernel_rfl) (by kernel_rfl) (by kernel_rfl) (fun _ _ _ h => h) (Or.inl ⟨by rfl, ?_⟩) hHeld ?_
                  rotate_left
                  · (intro w hSw; (try dsimp only at hSw); go_simp; try with_reducible rfl)
                  try simp only [Act.put, List.setIfInBounds_toArray, List.set_cons_zero, List.set_cons_succ]
                  refine wpAnyH_ready (rs := [13, 15]) (by kernel_rfl) (by simp) ?_
                  refine AllReadyH.cons rfl (fun K hK => ?_) ?_
                  · obtain ⟨z, hz, hz0, hz9⟩ := ints_at HZ42.out x6 (by omega)
                    go_simp
                    refine hK.out _ _ ?_ (fun hHeld => ?_)
                    · exact hc42
                    clear hK K
                    try simp only [Act.put, List.setIfInBounds_toArray, List.set_cons_zero, List.set_cons_succ]
                    refine wpAnyH_take (i := 14) (oi := ({ dst := some 34, op := Go.Op.build 112 #[(0, Go.Operand.tmp 25), (1, Go.Operand.tmp 28), (3, Go.Operand.tmp 33)], type := 112, pos := "l71_draw.go:277", after := #[{ on := 5, ground := Go.Ground.data }, { on := 8, ground := Go.Ground.data }, { on := 13, ground := Go.Ground.data }], guard := none } : Oper)) (v := ?_) rfl (by kernel_rfl) (by kernel_rfl) (by kernel_rfl) (fun _ _ _ h => h) (Or.inl ⟨by rfl, ?_⟩) hHeld ?_
                    rotate_left
                    · (intro w hSw; (try dsimp only at hSw); go_simp; try with_reducible rfl)
                    try simp only [Act.put, List.setIfInBounds_toArray, List.set_cons_zero, List.set_cons_succ]
                    refine wpAnyH_ready (rs := [15]) (by kernel_rfl) (by simp) ?_
                    refine AllReadyH.cons rfl (fun K hK => ?_) ?_
                    · go_simp
                      obtain ⟨W43, hW43⟩ : ∃ W, W = W42.alloc (.cells #[.string ⟨#[]⟩, .string ⟨#[]⟩, .string ⟨#[]⟩, .int .i64 0] 112) := ⟨_, rfl⟩
                      rw [← hW43]
                      have HI43 : Hid (WI B r (q + 53 * k + 1 + 44 + 1) w W43 u3 L) := by rw [hW43]; exact HI42.out.alloc _
                      have HH43 : Hid (Bx 9 W43 (w.heap.size + 1) house4) := by rw [hW43]; exact HH42.out.alloc _
                      have hc43 : W43.cell? ⟨w.heap.size + 1, k, none⟩ = some (.string hs) := house_same HH42.out HH43.out hc42
                      have hl43 : w2.heap.size ≤ W43.heap.size := by rw [hW43]; simp; omega
                      have hb42 : w.heap.size < W42.heap.size := Nat.lt_of_lt_of_le hw2 hl42
                      have HZ43 : Hid (Bx 3 W43 W0.heap.size intsW) := by rw [hW43]; exact HZ42.out.alloc _
                      have HX43 : Hid (Bx 112 W43 W42.heap.size #[.string ⟨#[]⟩, .string ⟨#[]⟩, .string ⟨#[]⟩, .int .i64 0]) := by rw [hW43]; exact Bx.new _ _ _
                      have hv42 : u3.ownBlock ≠ some W42.heap.size := fun e => by have := HVT.out _ e; omega
                      have hne42 : ∀ j : Nat, (⟨W42.heap.size, j, none⟩ : Addr).block ≠ w.heap.size + 1 := fun j e => by have e' : W42.heap.size = w.heap.size + 1 := e; omega
                      clear hW43
                      refine hK.out _ _ ?_ (fun hHeld => ?_)
                      · exact hc43
                      clear hK K
                      try simp only [Act.put, List.setIfInBounds_toArray, List.set_cons_zero, List.set_cons_succ]
                      refine wpAnyH_ready (rs := [16]) (by kernel_rfl) (by simp) ?_
                      refine AllReadyH.cons rfl (fun K hK => ?_) ?_
                      · have p0 := HX43.out.cell 0 rfl
                        have p1 := HX43.out.cell 1 rfl
                        have p2 := HX43.out.cell 2 rfl
                        have p3 := HX43.out.cell 3 rfl
                        have pf := HX43.out.free
                        go_simp
                        refine hK.out _ _ ?_ (fun hHeld => ?_)
                        · exact house_same HH43.out (house_set (house_set (house_set (house_set HH43.out (hne42 0) _) (hne42 1) _) (hne42 2) _) (hne42 3) _) hc43
                        clear hK K
                        try simp only [Act.put, List.setIfInBounds_toArray, List.set_cons_zero, List.set_cons_succ]
                        refine wpAnyH_done (by kernel_rfl) ?_ _
                        go_wp2_with fail
                        go_meet
                        refine ⟨W42.heap.size, nt, z, rfl, hns, hz0, hz9, ?_, ?_, ?_, hb42, fun b hb e => by have := HVT.out b hb; have := hl42; omega⟩
                        · exact (((HX43.out.set 0 _).set 1 _).set 2 _).set 3 _
                        · exact (((HI43.out.set HX43.out hb42 hv42 0 _).set (HX43.out.set 0 _) hb42 hv42 1 _).set ((HX43.out.set 0 _).set 1 _) hb42 hv42 2 _).set (((HX43.out.set 0 _).set 1 _).set 2 _) hb42 hv42 3 _
                        · exact house_set (house_set (house_set (house_set HH43.out (hne42 0) _) (hne42 1) _) (hne42 2) _) (hne42 3) _
                      exact AllReadyH.nil
                    exact AllReadyH.nil
                  refine AllReadyH.cons rfl (fun K hK => ?_) ?_
                  · go_simp
                    obtain ⟨W44, hW44⟩ : ∃ W, W = W42.alloc (.cells #[.string ⟨#[]⟩, .string ⟨#[]⟩, .string ⟨#[]⟩, .int .i64 0] 112) := ⟨_, rfl⟩
                    rw [← hW44]
                    have HI44 : Hid (WI B r (q + 53 * k + 1 + 44 + 1) w W44 u3 L) := by rw [hW44]; exact HI42.out.alloc _
                    have HH44 : Hid (Bx 9 W44 (w.heap.size + 1) house4) := by rw [hW44]; exact HH42.out.alloc _
                    have hc44 : W44.cell? ⟨w.heap.size + 1, k, none⟩ = some (.string hs) := house_same HH42.out HH44.out hc42
                    have hl44 : w2.heap.size ≤ W44.heap.size := by rw [hW44]; simp; omega
                    have hb42 : w.heap.size < W42.heap.size := Nat.lt_of_lt_of_le hw2 hl42
                    have HZ44 : Hid (Bx 3 W44 W0.heap.size intsW) := by rw [hW44]; exact HZ42.out.alloc _
                    have HX44 : Hid (Bx 112 W44 W42.heap.size #[.string ⟨#[]⟩, .string ⟨#[]⟩, .string ⟨#[]⟩, .int .i64 0]) := by rw [hW44]; exact Bx.new _ _ _
                    have hv42 : u3.ownBlock ≠ some W42.heap.size := fun e => by have := HVT.out _ e; omega
                    have hne42 : ∀ j : Nat, (⟨W42.heap.size, j, none⟩ : Addr).block ≠ w.heap.size + 1 := fun j e => by have e' : W42.heap.size = w.heap.size + 1 := e; omega
                    clear hW44
                    refine hK.out _ _ ?_ (fun hHeld => ?_)
                    · exact hc44
                    clear hK K
                    try simp only [Act.put, List.setIfInBounds_toArray, List.set_cons_zero, List.set_cons_succ]
                    refine wpAnyH_ready (rs := [13]) (by kernel_rfl) (by simp) ?_
                    refine AllReadyH.cons rfl (fun K hK => ?_) ?_
                    · obtain ⟨z, hz, hz0, hz9⟩ := ints_at HZ44.out x6 (by omega)
                      go_simp
                      refine hK.out _ _ ?_ (fun hHeld => ?_)
                      · exact hc44
                      clear hK K
                      try simp only [Act.put, List.setIfInBounds_toArray, List.set_cons_zero, List.set_cons_succ]
                      refine wpAnyH_take (i := 14) (oi := ({ dst := some 34, op := Go.Op.build 112 #[(0, Go.Operand.tmp 25), (1, Go.Operand.tmp 28), (3, Go.Operand.tmp 33)], type := 112, pos := "l71_draw.go:277", after := #[{ on := 5, ground := Go.Ground.data }, { on := 8, ground := Go.Ground.data }, { on := 13, ground := Go.Ground.data }], guard := none } : Oper)) (v := ?_) rfl (by kernel_rfl) (by kernel_rfl) (by kernel_rfl) (fun _ _ _ h => h) (Or.inl ⟨by rfl, ?_⟩) hHeld ?_
                      rotate_left
                      · (intro w hSw; (try dsimp only at hSw); go_simp; try with_reducible rfl)
                      try simp only [Act.put, List.setIfInBounds_toArray, List.set_cons_zero, List.set_cons_succ]
                      refine wpAnyH_ready (rs := [16]) (by kernel_rfl) (by simp) ?_
                      refine AllReadyH.cons rfl (fun K hK => ?_) ?_
                      · have p0 := HX44.out.cell 0 rfl
                        have p1 := HX44.out.cell 1 rfl
                        have p2 := HX44.out.cell 2 rfl
                        have p3 := HX44.out.cell 3 rfl
                        have pf := HX44.out.free
                        go_simp
                        refine hK.out _ _ ?_ (fun hHeld => ?_)
                        · exact house_same HH44.out (house_set (house_set (house_set (house_set HH44.out (hne42 0) _) (hne42 1) _) (hne42 2) _) (hne42 3) _) hc44
                        clear hK K
                        try simp only [Act.put, List.setIfInBounds_toArray, List.set_cons_zero, List.set_cons_succ]
                        refine wpAnyH_done (by kernel_rfl) ?_ _
                        go_wp2_with fail
                        go_meet
                        refine ⟨W42.heap.size, nt, z, rfl, hns, hz0, hz9, ?_, ?_, ?_, hb42, fun b hb e => by have := HVT.out b hb; have := hl42; omega⟩
                        · exact (((HX44.out.set 0 _).set 1 _).set 2 _).set 3 _
                        · exact (((HI44.out.set HX44.out hb42 hv42 0 _).set (HX44.out.set 0 _) hb42 hv42 1 _).set ((HX44.out.set 0 _).set 1 _) hb42 hv42 2 _).set (((HX44.out.set 0 _).set 1 _).set 2 _) hb42 hv42 3 _
                        · exact house_set (house_set (house_set (house_set HH44.out (hne42 0) _) (hne42 1) _) (hne42 2) _) (hne42 3) _
                      exact AllReadyH.nil
                    exact AllReadyH.nil
                  exact AllReadyH.nil
                refine AllReadyH.cons rfl (fun K hK => ?_) ?_
                · go_simp
                  obtain ⟨W45, hW45⟩ : ∃ W, W = W41.alloc (.cells #[.string ⟨#[]⟩, .string ⟨#[]⟩, .string ⟨#[]⟩, .int .i64 0] 112) := ⟨_, rfl⟩
                  rw [← hW45]
                  have HI45 : Hid (WI B r (q + 53 * k + 1 + 44) w W45 u3 L) := by rw [hW45]; exact HI41.out.alloc _
                  have HH45 : Hid (Bx 9 W45 (w.heap.size + 1) house4) := by rw [hW45]; exact HH41.out.alloc _
                  have hc45 : W45.cell? ⟨w.heap.size + 1, k, none⟩ = some (.string hs) := house_same HH41.out HH45.out hc41
                  have hl45 : w2.heap.size ≤ W45.heap.size := by rw [hW45]; simp; omega
                  have hb41 : w.heap.size < W41.heap.size := Nat.lt_of_lt_of_le hw2 hl41
                  have HZ45 : Hid (Bx 3 W45 W0.heap.size intsW) := by rw [hW45]; exact HZ41.out.alloc _
                  have HX45 : Hid (Bx 112 W45 W41.heap.size #[.string ⟨#[]⟩, .string ⟨#[]⟩, .string ⟨#[]⟩, .int .i64 0]) := by rw [hW45]; exact Bx.new _ _ _
                  have hv41 : u3.ownBlock ≠ some W41.heap.size := fun e => by have := HVT.out _ e; omega
                  have hne41 : ∀ j : Nat, (⟨W41.heap.size, j, none⟩ : Addr).block ≠ w.heap.size + 1 := fun j e => by have e' : W41.heap.size = w.heap.size + 1 := e; omega
                  clear hW45
                  refine hK.out _ _ ?_ (fun hHeld => ?_)
                  · exact hc45
                  clear hK K
                  try simp only [Act.put, List.setIfInBounds_toArray, List.set_cons_zero, List.set_cons_succ]
                  refine wpAnyH_ready (rs := [11]) (by kernel_rfl) (by simp) ?_
                  refine AllReadyH.cons rfl (fun K hK => ?_) ?_
                  · go_simp
                    refine (pick_any B r (q + 53 * k + 1 + 44) 6 _ HI45.out.rd (by omega) (by omega) (by omega)).mono ?_
                    rintro e W46 ⟨x6, rfl, hx6, hr5, hg5⟩
                    have HI46 : Hid (WI B r (q + 53 * k + 1 + 44 + 1) w W46 u3 L) := HI45.out.step hg5 hr5
                    have HH46 : Hid (Bx 9 W46 (w.heap.size + 1) house4) := HH45.out.grown hg5 (fun e => hrH (Option.some.inj e))
                    have hc46 : W46.cell? ⟨w.heap.size + 1, k, none⟩ = some (.string hs) := house_same HH45.out HH46.out hc45
                    have HZ46 : Hid (Bx 3 W46 W0.heap.size intsW) := HZ45.out.grown hg5 (hneZ _ hb0)
                    have HX46 : Hid (Bx 112 W46 W41.heap.size #[.string ⟨#[]⟩, .string ⟨#[]⟩, .string ⟨#[]⟩, .int .i64 0]) := HX45.out.grown hg5 (hneZ _ hb41)
                    have hl46 : w2.heap.size ≤ W46.heap.size := Nat.le_trans hl45 hg5.size
                    clear hr5 hg5
                    have hx6i : (x6 : Int) < 6 := by omega
                    have hx6z : (0 : Int) ≤ (x6 : Int) := by omega
                    refine hK.out _ _ ?_ (fun hHeld => ?_)
                    · exact hc46
                    clear hK K
                    try simp only [Act.put, List.setIfInBounds_toArray, List.set_cons_zero, List.set_cons_succ]
                    refine wpAnyH_take (i := 12) (oi := ({ dst := some 32, op := Go.Op.indexAddr 51 (Go.Operand.tmp 29) (Go.Operand.tmp 31), type := 0, pos := "l71_draw.go:277", after := #[{ on := 9, ground := Go.Ground.data }, { on := 11, ground := Go.Ground.data }], guard := none } : Oper)) (v := ?_) rfl (by kernel_rfl) (by kernel_rfl) (by kernel_rfl) (fun _ _ _ h => h) (Or.inl ⟨by rfl, ?_⟩) hHeld ?_
                    rotate_left
                    · (intro w hSw; (try dsimp only at hSw); go_simp; try with_reducible rfl)
                    try simp only [Act.put, List.setIfInBounds_toArray, List.set_cons_zero, List.set_cons_succ]
                    refine wpAnyH_ready (rs := [13]) (by kernel_rfl) (by simp) ?_
                    refine AllReadyH.cons rfl (fun K hK => ?_) ?_
                    · obtain ⟨z, hz, hz0, hz9⟩ := ints_at HZ46.out x6 (by omega)
                      go_simp
                      refine hK.out _ _ ?_ (fun hHeld => ?_)
                      · exact hc46
                      clear hK K
                      try simp only [Act.put, List.setIfInBounds_toArray, List.set_cons_zero, List.set_cons_succ]
                      refine wpAnyH_take (i := 14) (oi := ({ dst := some 34, op := Go.Op.build 112 #[(0, Go.Operand.tmp 25), (1, Go.Operand.tmp 28), (3, Go.Operand.tmp 33)], type := 112, pos := "l71_draw.go:277", after := #[{ on := 5, ground := Go.Ground.data }, { on := 8, ground := Go.Ground.data }, { on := 13, ground := Go.Ground.data }], guard := none } : Oper)) (v := ?_) rfl (by kernel_rfl) (by kernel_rfl) (by kernel_rfl) (fun _ _ _ h => h) (Or.inl ⟨by rfl, ?_⟩) hHeld ?_
                      rotate_left
                      · (intro w hSw; (try dsimp only at hSw); go_simp; try with_reducible rfl)
                      try simp only [Act.put, List.setIfInBounds_toArray, List.set_cons_zero, List.set_cons_succ]
                      refine wpAnyH_ready (rs := [16]) (by kernel_rfl) (by simp) ?_
                      refine AllReadyH.cons rfl (fun K hK => ?_) ?_
                      · have p0 := HX46.out.cell 0 rfl
                        have p1 := HX46.out.cell 1 rfl
                        have p2 := HX46.out.cell 2 rfl
                        have p3 := HX46.out.cell 3 rfl
                        have pf := HX46.out.free
                        go_simp
                        refine hK.out _ _ ?_ (fun hHeld => ?_)
                        · exact house_same HH46.out (house_set (house_set (house_set (house_set HH46.out (hne41 0) _) (hne41 1) _) (hne41 2) _) (hne41 3) _) hc46
                        clear hK K
                        try simp only [Act.put, List.setIfInBounds_toArray, List.set_cons_zero, List.set_cons_succ]
                        refine wpAnyH_done (by kernel_rfl) ?_ _
                        go_wp2_with fail
                        go_meet
                        refine ⟨W41.heap.size, nt, z, rfl, hns, hz0, hz9, ?_, ?_, ?_, hb41, fun b hb e => by have := HVT.out b hb; have := hl41; omega⟩
                        · exact (((HX46.out.set 0 _).set 1 _).set 2 _).set 3 _
                        · exact (((HI46.out.set HX46.out hb41 hv41 0 _).set (HX46.out.set 0 _) hb41 hv41 1 _).set ((HX46.out.set 0 _).set 1 _) hb41 hv41 2 _).set (((HX46.out.set 0 _).set 1 _).set 2 _) hb41 hv41 3 _
                        · exact house_set (house_set (house_set (house_set HH46.out (hne41 0) _) (hne41 1) _) (hne41 2) _) (hne41 3) _
                      exact AllReadyH.nil
                    exact AllReadyH.nil
                  exact AllReadyH.nil
                exact AllReadyH.nil
              refine AllReadyH.cons rfl (fun K hK => ?_) ?_
              · go_simp
                obtain ⟨W47, hW47⟩ : ∃ W, W = W40.alloc (.cells #[.string ⟨#[]⟩, .string ⟨#[]⟩, .string ⟨#[]⟩, .int .i64 0] 112) := ⟨_, rfl⟩
                rw [← hW47]
                have HI47 : Hid (WI B r (q + 53 * k + 1 + 44) w W47 u3 L) := by rw [hW47]; exact HI40.out.alloc _
                have HH47 : Hid (Bx 9 W47 (w.heap.size + 1) house4) := by rw [hW47]; exact HH40.out.alloc _
                have hc47 : W47.cell? ⟨w.heap.size + 1, k, none⟩ = some (.string hs) := house_same HH40.out HH47.out hc40
                have hl47 : w2.heap.size ≤ W47.heap.size := by rw [hW47]; simp; omega
                have hb40 : w.heap.size < W40.heap.size := Nat.lt_of_lt_of_le hw2 hl40
                have HG47 : Hid (IsRows FGr W47 a3 c3 Lg ∧ GrsAt W47 Lg) := by rw [hW47]; exact ⟨IsRows.keep HG40.out.1 (alloc_keep _ _), GrsAt.keep HG40.out.2 (alloc_keep _ _)⟩
                have HZ47 : Hid (Bx 3 W47 W0.heap.size intsW) := by rw [hW47]; exact HZ40.out.alloc _
                have HX47 : Hid (Bx 112 W47 W40.heap.size #[.string ⟨#[]⟩, .string ⟨#[]⟩, .string ⟨#[]⟩, .int .i64 0]) := by rw [hW47]; exact Bx.new _ _ _
                have hv40 : u3.ownBlock ≠ some W40.heap.size := fun e => by have := HVT.out _ e; omega
                have hne40 : ∀ j : Nat, (⟨W40.heap.size, j, none⟩ : Addr).block ≠ w.heap.size + 1 := fun j e => by have e' : W40.heap.size = w.heap.size + 1 := e; omega
                clear hW47
                refine hK.out _ _ ?_ (fun hHeld => ?_)
                · exact hc47
                clear hK K
                try simp only [Act.put, List.setIfInBounds_toArray, List.set_cons_zero, List.set_cons_succ]
                refine wpAnyH_ready (rs := [8]) (by kernel_rfl) (by simp) ?_
                refine AllReadyH.cons rfl (fun K hK => ?_) ?_
                · go_simp
                  refine (specNText_any a3 c3 Lg _ HG47.out.1 HG47.out.2 (fun g hg => (HBG.out g hg).sz) (by omega)).mono ?_
                  rintro e W48 ⟨rfl, hb4⟩
                  have hns := notice_ok Lg
                  have HI48 : Hid (WI B r (q + 53 * k + 1 + 44) w W48 u3 L) := HI47.out.below hb4
                  have HH48 : Hid (Bx 9 W48 (w.heap.size + 1) house4) := HH47.out.keep (fun k hk => hb4.block k hk)
                  have hc48 : W48.cell? ⟨w.heap.size + 1, k, none⟩ = some (.string hs) := house_same HH47.out HH48.out hc47
                  have HZ48 : Hid (Bx 3 W48 W0.heap.size intsW) := HZ47.out.keep (fun k hk => hb4.block k hk)
                  have HX48 : Hid (Bx 112 W48 W40.heap.size #[.string ⟨#[]⟩, .string ⟨#[]⟩, .string ⟨#[]⟩, .int .i64 0]) := HX47.out.keep (fun k hk => hb4.block k hk)
                  have hl48 : w2.heap.size ≤ W48.heap.size := Nat.le_trans hl47 hb4.size
                  clear hb4
                  generalize ntS Lg = nt at *
                  refine hK.out _ _ ?_ (fun hHeld => ?_)
                  · exact hc48
                  clear hK K
                  try simp only [Act.put, List.setIfInBounds_toArray, List.set_cons_zero, List.set_cons_succ]
                  refine wpAnyH_ready (rs := [11]) (by kernel_rfl) (by simp) ?_
                  refine AllReadyH.cons rfl (fun K hK => ?_) ?_
                  · go_simp
                    refine (pick_any B r (q + 53 * k + 1 + 44) 6 _ HI48.out.rd (by omega) (by omega) (by omega)).mono ?_
                    rintro e W49 ⟨x6, rfl, hx6, hr5, hg5⟩
                    have HI49 : Hid (WI B r (q + 53 * k + 1 + 44 + 1) w W49 u3 L) := HI48.out.step hg5 hr5
                    have HH49 : Hid (Bx 9 W49 (w.heap.size + 1) house4) := HH48.out.grown hg5 (fun e => hrH (Option.some.inj e))
                    have hc49 : W49.cell? ⟨w.heap.size + 1, k, none⟩ = some (.string hs) := house_same HH48.out HH49.out hc48
                    have HZ49 : Hid (Bx 3 W49 W0.heap.size intsW) := HZ48.out.grown hg5 (hneZ _ hb0)
                    have HX49 : Hid (Bx 112 W49 W40.heap.size #[.string ⟨#[]⟩, .string ⟨#[]⟩, .string ⟨#[]⟩, .int .i64 0]) := HX48.out.grown hg5 (hneZ _ hb40)
                    have hl49 : w2.heap.size ≤ W49.heap.size := Nat.le_trans hl48 hg5.size
                    clear hr5 hg5
                    have hx6i : (x6 : Int) < 6 := by omega
                    have hx6z : (0 : Int) ≤ (x6 : Int) := by omega
                    refine hK.out _ _ ?_ (fun hHeld => ?_)
                    · exact hc49
                    clear hK K
                    try simp only [Act.put, List.setIfInBounds_toArray, List.set_cons_zero, List.set_cons_succ]
                    refine wpAnyH_take (i := 12) (oi := ({ dst := some 32, op := Go.Op.indexAddr 51 (Go.Operand.tmp 29) (Go.Operand.tmp 31), type := 0, pos := "l71_draw.go:277", after := #[{ on := 9, ground := Go.Ground.data }, { on := 11, ground := Go.Ground.data }], guard := none } : Oper)) (v := ?_) rfl (by kernel_rfl) (by kernel_rfl) (by kernel_rfl) (fun _ _ _ h => h) (Or.inl ⟨by rfl, ?_⟩) hHeld ?_
                    rotate_left
                    · (intro w hSw; (try dsimp only at hSw); go_simp; try with_reducible rfl)
                    try simp only [Act.put, List.setIfInBounds_toArray, List.set_cons_zero, List.set_cons_succ]
                    refine wpAnyH_ready (rs := [13]) (by kernel_rfl) (by simp) ?_
                    refine AllReadyH.cons rfl (fun K hK => ?_) ?_
                    · obtain ⟨z, hz, hz0, hz9⟩ := ints_at HZ49.out x6 (by omega)
                      go_simp
                      refine hK.out _ _ ?_ (fun hHeld => ?_)
                      · exact hc49
                      clear hK K
                      try simp only [Act.put, List.setIfInBounds_toArray, List.set_cons_zero, List.set_cons_succ]
                      refine wpAnyH_take (i := 14) (oi := ({ dst := some 34, op := Go.Op.build 112 #[(0, Go.Operand.tmp 25), (1, Go.Operand.tmp 28), (3, Go.Operand.tmp 33)], type := 112, pos := "l71_draw.go:277", after := #[{ on := 5, ground := Go.Ground.data }, { on := 8, ground := Go.Ground.data }, { on := 13, ground := Go.Ground.data }], guard := none } : Oper)) (v := ?_) rfl (by kernel_rfl) (by kernel_rfl) (by kernel_rfl) (fun _ _ _ h => h) (Or.inl ⟨by rfl, ?_⟩) hHeld ?_
                      rotate_left
                      · (intro w hSw; (try dsimp only at hSw); go_simp; try with_reducible rfl)
                      try simp only [Act.put, List.setIfInBounds_toArray, List.set_cons_zero, List.set_cons_succ]
                      refine wpAnyH_ready (rs := [16]) (by kernel_rfl) (by simp) ?_
                      refine AllReadyH.cons rfl (fun K hK => ?_) ?_
                      · have p0 := HX49.out.cell 0 rfl
                        have p1 := HX49.out.cell 1 rfl
                        have p2 := HX49.out.cell 2 rfl
                        have p3 := HX49.out.cell 3 rfl
                        have pf := HX49.out.free
                        go_simp
                        refine hK.out _ _ ?_ (fun hHeld => ?_)
                        · exact house_same HH49.out (house_set (house_set (house_set (house_set HH49.out (hne40 0) _) (hne40 1) _) (hne40 2) _) (hne40 3) _) hc49
                        clear hK K
                        try simp only [Act.put, List.setIfInBounds_toArray, List.set_cons_zero, List.set_cons_succ]
                        refine wpAnyH_done (by kernel_rfl) ?_ _
                        go_wp2_with fail
                        go_meet
                        refine ⟨W40.heap.size, nt, z, rfl, hns, hz0, hz9, ?_, ?_, ?_, hb40, fun b hb e => by have := HVT.out b hb; have := hl40; omega⟩
                        · exact (((HX49.out.set 0 _).set 1 _).set 2 _).set 3 _
                        · exact (((HI49.out.set HX49.out hb40 hv40 0 _).set (HX49.out.set 0 _) hb40 hv40 1 _).set ((HX49.out.set 0 _).set 1 _) hb40 hv40 2 _).set (((HX49.out.set 0 _).set 1 _).set 2 _) hb40 hv40 3 _
                        · exact house_set (house_set (house_set (house_set HH49.out (hne40 0) _) (hne40 1) _) (hne40 2) _) (hne40 3) _
                      exact AllReadyH.nil
                    exact AllReadyH.nil
                  exact AllReadyH.nil
                exact AllReadyH.nil
              exact AllReadyH.nil
            refine AllReadyH.cons rfl (fun K hK => ?_) ?_
            · go_simp
              obtain ⟨W50, hW50⟩ : ∃ W, W = W39.alloc (.cells #[.string ⟨#[]⟩, .string ⟨#[]⟩, .string ⟨#[]⟩, .int .i64 0] 112) := ⟨_, rfl⟩
              rw [← hW50]
              have HI50 : Hid (WI B r (q + 53 * k + 1) w W50 u3 L) := by rw [hW50]; exact HI39.out.alloc _
              have HH50 : Hid (Bx 9 W50 (w.heap.size + 1) house4) := by rw [hW50]; exact HH39.out.alloc _
              have hc50 : W50.cell? ⟨w.heap.size + 1, k, none⟩ = some (.string hs) := house_same HH39.out HH50.out hc39
              have hl50 : w2.heap.size ≤ W50.heap.size := by rw [hW50]; simp; omega
              have hb39 : w.heap.size < W39.heap.size := Nat.lt_of_lt_of_le hw2 hl39
              have HZ50 : Hid (Bx 3 W50 W0.heap.size intsW) := by rw [hW50]; exact HZ39.out.alloc _
              have HX50 : Hid (Bx 112 W50 W39.heap.size #[.string ⟨#[]⟩, .string ⟨#[]⟩, .string ⟨#[]⟩, .int .i64 0]) := by rw [hW50]; exact Bx.new _ _ _
              have hv39 : u3.ownBlock ≠ some W39.heap.size := fun e => by have := HVT.out _ e; omega
              have hne39 : ∀ j : Nat, (⟨W39.heap.size, j, none⟩ : Addr).block ≠ w.heap.size + 1 := fun j e => by have e' : W39.heap.size = w.heap.size + 1 := e; omega
              clear hW50
              refine hK.out _ _ ?_ (fun hHeld => ?_)
              · exact hc50
              clear hK K
              try simp only [Act.put, List.setIfInBounds_toArray, List.set_cons_zero, List.set_cons_succ]
              refine wpAnyH_ready (rs := [7]) (by kernel_rfl) (by simp) ?_
              refine AllReadyH.cons rfl (fun K hK => ?_) ?_
              · go_simp
                refine (groups_any B r (q + 53 * k + 1) _ HI50.out.rd (by omega)).mono ?_
                rintro e W51 ⟨Lg, a3, c3, rfl, hGI, hAp, hlg, hbg⟩
                have HI51 : Hid (WI B r (q + 53 * k + 1 + 44) w W51 u3 L) := HI50.out.step hGI.2.2.2.1 hGI.2.2.1
                have HH51 : Hid (Bx 9 W51 (w.heap.size + 1) house4) := HH50.out.grown hGI.2.2.2.1 (fun e => hrH (Option.some.inj e))
                have hc51 : W51.cell? ⟨w.heap.size + 1, k, none⟩ = some (.string hs) := house_same HH50.out HH51.out hc50
                have HZ51 : Hid (Bx 3 W51 W0.heap.size intsW) := HZ50.out.grown hGI.2.2.2.1 (hneZ _ hb0)
                have HX51 : Hid (Bx 112 W51 W39.heap.size #[.string ⟨#[]⟩, .string ⟨#[]⟩, .string ⟨#[]⟩, .int .i64 0]) := HX50.out.grown hGI.2.2.2.1 (hneZ _ hb39)
                have HG51 : Hid (IsRows FGr W51 a3 c3 Lg ∧ GrsAt W51 Lg) := ⟨OwnsR.rowsOf hGI.1, hGI.2.1.at⟩
                have HBG : Hid (∀ g ∈ Lg, GrBd g) := hbg
                have hl51 : w2.heap.size ≤ W51.heap.size := Nat.le_trans hl50 hGI.2.2.2.1.size
                clear hGI hAp hbg
                refine hK.out _ _ ?_ (fun hHeld => ?_)
                · exact hc51
                clear hK K
                try simp only [Act.put, List.setIfInBounds_toArray, List.set_cons_zero, List.set_cons_succ]
                refine wpAnyH_ready (rs := [8]) (by kernel_rfl) (by simp) ?_
                refine AllReadyH.cons rfl (fun K hK => ?_) ?_
                · go_simp
                  refine (specNText_any a3 c3 Lg _ HG51.out.1 HG51.out.2 (fun g hg => (HBG.out g hg).sz) (by omega)).mono ?_
                  rintro e W52 ⟨rfl, hb4⟩
                  have hns := notice_ok Lg
                  have HI52 : Hid (WI B r (q + 53 * k + 1 + 44) w W52 u3 L) := HI51.out.below hb4
                  have HH52 : Hid (Bx 9 W52 (w.heap.size + 1) house4) := HH51.out.keep (fun k hk => hb4.block k hk)
                  have hc52 : W52.cell? ⟨w.heap.size + 1, k, none⟩ = some (.string hs) := house_same HH51.out HH52.out hc51
                  have HZ52 : Hid (Bx 3 W52 W0.heap.size intsW) := HZ51.out.keep (fun k hk => hb4.block k hk)
                  have HX52 : Hid (Bx 112 W52 W39.heap.size #[.string ⟨#[]⟩, .string ⟨#[]⟩, .string ⟨#[]⟩, .int .i64 0]) := HX51.out.keep (fun k hk => hb4.block k hk)
                  have hl52 : w2.heap.size ≤ W52.heap.size := Nat.le_trans hl51 hb4.size
                  clear hb4
                  generalize ntS Lg = nt at *
                  refine hK.out _ _ ?_ (fun hHeld => ?_)
                  · exact hc52
                  clear hK K
                  try simp only [Act.put, List.setIfInBounds_toArray, List.set_cons_zero, List.set_cons_succ]
                  refine wpAnyH_ready (rs := [11]) (by kernel_rfl) (by simp) ?_
                  refine AllReadyH.cons rfl (fun K hK => ?_) ?_
                  · go_simp
                    refine (pick_any B r (q + 53 * k + 1 + 44) 6 _ HI52.out.rd (by omega) (by omega) (by omega)).mono ?_
                    rintro e W53 ⟨x6, rfl, hx6, hr5, hg5⟩
                    have HI53 : Hid (WI B r (q + 53 * k + 1 + 44 + 1) w W53 u3 L) := HI52.out.step hg5 hr5
                    have HH53 : Hid (Bx 9 W53 (w.heap.size + 1) house4) := HH52.out.grown hg5 (fun e => hrH (Option.some.inj e))
                    have hc53 : W53.cell? ⟨w.heap.size + 1, k, none⟩ = some (.string hs) := house_same HH52.out HH53.out hc52
                    have HZ53 : Hid (Bx 3 W53 W0.heap.size intsW) := HZ52.out.grown hg5 (hneZ _ hb0)
                    have HX53 : Hid (Bx 112 W53 W39.heap.size #[.string ⟨#[]⟩, .string ⟨#[]⟩, .string ⟨#[]⟩, .int .i64 0]) := HX52.out.grown hg5 (hneZ _ hb39)
                    have hl53 : w2.heap.size ≤ W53.heap.size := Nat.le_trans hl52 hg5.size
                    clear hr5 hg5
                    have hx6i : (x6 : Int) < 6 := by omega
                    have hx6z : (0 : Int) ≤ (x6 : Int) := by omega
                    refine hK.out _ _ ?_ (fun hHeld => ?_)
                    · exact hc53
                    clear hK K
                    try simp only [Act.put, List.setIfInBounds_toArray, List.set_cons_zero, List.set_cons_succ]
                    refine wpAnyH_take (i := 12) (oi := ({ dst := some 32, op := Go.Op.indexAddr 51 (Go.Operand.tmp 29) (Go.Operand.tmp 31), type := 0, pos := "l71_draw.go:277", after := #[{ on := 9, ground := Go.Ground.data }, { on := 11, ground := Go.Ground.data }], guard := none } : Oper)) (v := ?_) rfl (by kernel_rfl) (by kernel_rfl) (by kernel_rfl) (fun _ _ _ h => h) (Or.inl ⟨by rfl, ?_⟩) hHeld ?_
                    rotate_left
                    · (intro w hSw; (try dsimp only at hSw); go_simp; try with_reducible rfl)
                    try simp only [Act.put, List.setIfInBounds_toArray, List.set_cons_zero, List.set_cons_succ]
                    refine wpAnyH_ready (rs := [13]) (by kernel_rfl) (by simp) ?_
                    refine AllReadyH.cons rfl (fun K hK => ?_) ?_
                    · obtain ⟨z, hz, hz0, hz9⟩ := ints_at HZ53.out x6 (by omega)
                      go_simp
                      refine hK.out _ _ ?_ (fun hHeld => ?_)
                      · exact hc53
                      clear hK K
                      try simp only [Act.put, List.setIfInBounds_toArray, List.set_cons_zero, List.set_cons_succ]
                      refine wpAnyH_take (i := 14) (oi := ({ dst := some 34, op := Go.Op.build 112 #[(0, Go.Operand.tmp 25), (1, Go.Operand.tmp 28), (3, Go.Operand.tmp 33)], type := 112, pos := "l71_draw.go:277", after := #[{ on := 5, ground := Go.Ground.data }, { on := 8, ground := Go.Ground.data }, { on := 13, ground := Go.Ground.data }], guard := none } : Oper)) (v := ?_) rfl (by kernel_rfl) (by kernel_rfl) (by kernel_rfl) (fun _ _ _ h => h) (Or.inl ⟨by rfl, ?_⟩) hHeld ?_
                      rotate_left
                      · (intro w hSw; (try dsimp only at hSw); go_simp; try with_reducible rfl)
                      try simp only [Act.put, List.setIfInBounds_toArray, List.set_cons_zero, List.set_cons_succ]
                      refine wpAnyH_ready (rs := [16]) (by kernel_rfl) (by simp) ?_
                      refine AllReadyH.cons rfl (fun K hK => ?_) ?_
                      · have p0 := HX53.out.cell 0 rfl
                        have p1 := HX53.out.cell 1 rfl
                        have p2 := HX53.out.cell 2 rfl
                        have p3 := HX53.out.cell 3 rfl
                        have pf := HX53.out.free
                        go_simp
                        refine hK.out _ _ ?_ (fun hHeld => ?_)
                        · exact house_same HH53.out (house_set (house_set (house_set (house_set HH53.out (hne39 0) _) (hne39 1) _) (hne39 2) _) (hne39 3) _) hc53
                        clear hK K
                        try simp only [Act.put, List.setIfInBounds_toArray, List.set_cons_zero, List.set_cons_succ]
                        refine wpAnyH_done (by kernel_rfl) ?_ _
                        go_wp2_with fail
                        go_meet
                        refine ⟨W39.heap.size, nt, z, rfl, hns, hz0, hz9, ?_, ?_, ?_, hb39, fun b hb e => by have := HVT.out b hb; have := hl39; omega⟩
                        · exact (((HX53.out.set 0 _).set 1 _).set 2 _).set 3 _
                        · exact (((HI53.out.set HX53.out hb39 hv39 0 _).set (HX53.out.set 0 _) hb39 hv39 1 _).set ((HX53.out.set 0 _).set 1 _) hb39 hv39 2 _).set (((HX53.out.set 0 _).set 1 _).set 2 _) hb39 hv39 3 _
                        · exact house_set (house_set (house_set (house_set HH53.out (hne39 0) _) (hne39 1) _) (hne39 2) _) (hne39 3) _
                      exact AllReadyH.nil
                    exact AllReadyH.nil
                  exact AllReadyH.nil
                exact AllReadyH.nil
              exact AllReadyH.nil
            exact AllReadyH.nil
          refine AllReadyH.cons rfl (fun K hK => ?_) ?_
          · go_simp
            obtain ⟨W54, hW54⟩ : ∃ W, W = W0.alloc (.cells #[.string ⟨#[]⟩, .string ⟨#[]⟩, .string ⟨#[]⟩, .int .i64 0] 112) := ⟨_, rfl⟩
            rw [← hW54]
            have HI54 : Hid (WI B r (q + 53 * k + 1) w W54 u3 L) := by rw [hW54]; exact HI0.out.alloc _
            have HH54 : Hid (Bx 9 W54 (w.heap.size + 1) house4) := by rw [hW54]; exact HH0.out.alloc _
            have hc54 : W54.cell? ⟨w.heap.size + 1, k, none⟩ = some (.string hs) := house_same HH0.out HH54.out hc0
            have hl54 : w2.heap.size ≤ W54.heap.size := by rw [hW54]; simp; omega
            have hb0 : w.heap.size < W0.heap.size := Nat.lt_of_lt_of_le hw2 hl0
            have HX54 : Hid (Bx 112 W54 W0.heap.size #[.string ⟨#[]⟩, .string ⟨#[]⟩, .string ⟨#[]⟩, .int .i64 0]) := by rw [hW54]; exact Bx.new _ _ _
            have hv0 : u3.ownBlock ≠ some W0.heap.size := fun e => by have := HVT.out _ e; omega
            have hne0 : ∀ j : Nat, (⟨W0.heap.size, j, none⟩ : Addr).block ≠ w.heap.size + 1 := fun j e => by have e' : W0.heap.size = w.heap.size + 1 := e; omega
            clear hW54
            refine hK.out _ _ ?_ (fun hHeld => ?_)
            · exact hc54
            clear hK K
            try simp only [Act.put, List.setIfInBounds_toArray, List.set_cons_zero, List.set_cons_succ]
            refine wpAnyH_ready (rs := [7, 9]) (by kernel_rfl) (by simp) ?_
            refine AllReadyH.cons rfl (fun K hK => ?_) ?_
            · go_simp
              refine (groups_any B r (q + 53 * k + 1) _ HI54.out.rd (by omega)).mono ?_
              rintro e W55 ⟨Lg, a3, c3, rfl, hGI, hAp, hlg, hbg⟩
              have HI55 : Hid (WI B r (q + 53 * k + 1 + 44) w W55 u3 L) := HI54.out.step hGI.2.2.2.1 hGI.2.2.1
              have HH55 : Hid (Bx 9 W55 (w.heap.size + 1) house4) := HH54.out.grown hGI.2.2.2.1 (fun e => hrH (Option.some.inj e))
              have hc55 : W55.cell? ⟨w.heap.size + 1, k, none⟩ = some (.string hs) := house_same HH54.out HH55.out hc54
              have HX55 : Hid (Bx 112 W55 W0.heap.size #[.string ⟨#[]⟩, .string ⟨#[]⟩, .string ⟨#[]⟩, .int .i64 0]) := HX54.out.grown hGI.2.2.2.1 (hneZ _ hb0)
              have HG55 : Hid (IsRows FGr W55 a3 c3 Lg ∧ GrsAt W55 Lg) := ⟨OwnsR.rowsOf hGI.1, hGI.2.1.at⟩
              have HBG : Hid (∀ g ∈ Lg, GrBd g) := hbg
              have hl55 : w2.heap.size ≤ W55.heap.size := Nat.le_trans hl54 hGI.2.2.2.1.size
              clear hGI hAp hbg
              refine hK.out _ _ ?_ (fun hHeld => ?_)
              · exact hc55
              clear hK K
              try simp only [Act.put, List.setIfInBounds_toArray, List.set_cons_zero, List.set_cons_succ]
              refine wpAnyH_ready (rs := [8, 9]) (by kernel_rfl) (by simp) ?_
              refine AllReadyH.cons rfl (fun K hK => ?_) ?_
              · go_simp
                refine (specNText_any a3 c3 Lg _ HG55.out.1 HG55.out.2 (fun g hg => (HBG.out g hg).sz) (by omega)).mono ?_
                rintro e W56 ⟨rfl, hb4⟩
                have hns := notice_ok Lg
                have HI56 : Hid (WI B r (q + 53 * k + 1 + 44) w W56 u3 L) := HI55.out.below hb4
                have HH56 : Hid (Bx 9 W56 (w.heap.size + 1) house4) := HH55.out.keep (fun k hk => hb4.block k hk)
                have hc56 : W56.cell? ⟨w.heap.size + 1, k, none⟩ = some (.string hs) := house_same HH55.out HH56.out hc55
                have HX56 : Hid (Bx 112 W56 W0.heap.size #[.string ⟨#[]⟩, .string ⟨#[]⟩, .string ⟨#[]⟩, .int .i64 0]) := HX55.out.keep (fun k hk => hb4.block k hk)
                have hl56 : w2.heap.size ≤ W56.heap.size := Nat.le_trans hl55 hb4.size
                clear hb4
                generalize ntS Lg = nt at *
                refine hK.out _ _ ?_ (fun hHeld => ?_)
                · exact hc56
                clear hK K
                try simp only [Act.put, List.setIfInBounds_toArray, List.set_cons_zero, List.set_cons_succ]
                refine wpAnyH_ready (rs := [9, 11]) (by kernel_rfl) (by simp) ?_
                refine AllReadyH.cons rfl (fun K hK => ?_) ?_
                · go_simp
                  obtain ⟨W57, hW57⟩ : ∃ W, W = W56.alloc (.cells #[.int .i64 0, .int .i64 0, .int .i64 0, .int .i64 1, .int .i64 2, .int .i64 5] 3) := ⟨_, rfl⟩
                  rw [← hW57]
                  have HI57 : Hid (WI B r (q + 53 * k + 1 + 44) w W57 u3 L) := by rw [hW57]; exact HI56.out.alloc _
                  have HH57 : Hid (Bx 9 W57 (w.heap.size + 1) house4) := by rw [hW57]; exact HH56.out.alloc _
                  have hc57 : W57.cell? ⟨w.heap.size + 1, k, none⟩ = some (.string hs) := house_same HH56.out HH57.out hc56
                  have hl57 : w2.heap.size ≤ W57.heap.size := by rw [hW57]; simp; omega
                  have hb56 : w.heap.size < W56.heap.size := Nat.lt_of_lt_of_le hw2 hl56
                  have HZ57 : Hid (Bx 3 W57 W56.heap.size intsW) := by rw [hW57]; exact Bx.new _ _ _
                  have HX57 : Hid (Bx 112 W57 W0.heap.size #[.string ⟨#[]⟩, .string ⟨#[]⟩, .string ⟨#[]⟩, .int .i64 0]) := by rw [hW57]; exact HX56.out.alloc _
                  clear hW57
                  refine hK.out _ _ ?_ (fun hHeld => ?_)
                  · exact hc57
                  clear hK K
                  try simp only [Act.put, List.setIfInBounds_toArray, List.set_cons_zero, List.set_cons_succ]
                  refine wpAnyH_ready (rs := [11]) (by kernel_rfl) (by simp) ?_
                  refine AllReadyH.cons rfl (fun K hK => ?_) ?_
                  · go_simp
                    refine (pick_any B r (q + 53 * k + 1 + 44) 6 _ HI57.out.rd (by omega) (by omega) (by omega)).mono ?_
                    rintro e W58 ⟨x6, rfl, hx6, hr5, hg5⟩
                    have HI58 : Hid (WI B r (q + 53 * k + 1 + 44 + 1) w W58 u3 L) := HI57.out.step hg5 hr5
                    have HH58 : Hid (Bx 9 W58 (w.heap.size + 1) house4) := HH57.out.grown hg5 (fun e => hrH (Option.some.inj e))
                    have hc58 : W58.cell? ⟨w.heap.size + 1, k, none⟩ = some (.string hs) := house_same HH57.out HH58.out hc57
                    have HZ58 : Hid (Bx 3 W58 W56.heap.size intsW) := HZ57.out.grown hg5 (hneZ _ hb56)
                    have HX58 : Hid (Bx 112 W58 W0.heap.size #[.string ⟨#[]⟩, .string ⟨#[]⟩, .string ⟨#[]⟩, .int .i64 0]) := HX57.out.grown hg5 (hneZ _ hb0)
                    have hl58 : w2.heap.size ≤ W58.heap.size := Nat.le_trans hl57 hg5.size
                    clear hr5 hg5
                    have hx6i : (x6 : Int) < 6 := by omega
                    have hx6z : (0 : Int) ≤ (x6 : Int) := by omega
                    refine hK.out _ _ ?_ (fun hHeld => ?_)
                    · exact hc58
                    clear hK K
                    try simp only [Act.put, List.setIfInBounds_toArray, List.set_cons_zero, List.set_cons_succ]
                    refine wpAnyH_take (i := 12) (oi := ({ dst := some 32, op := Go.Op.indexAddr 51 (Go.Operand.tmp 29) (Go.Operand.tmp 31), type := 0, pos := "l71_draw.go:277", after := #[{ on := 9, ground := Go.Ground.data }, { on := 11, ground := Go.Ground.data }], guard := none } : Oper)) (v := ?_) rfl (by kernel_rfl) (by kernel_rfl) (by kernel_rfl) (fun _ _ _ h => h) (Or.inl ⟨by rfl, ?_⟩) hHeld ?_
                    rotate_left
                    · (intro w hSw; (try dsimp only at hSw); go_simp; try with_reducible rfl)
                    try simp only [Act.put, List.setIfInBounds_toArray, List.set_cons_zero, List.set_cons_succ]
                    refine wpAnyH_ready (rs := [13]) (by kernel_rfl) (by simp) ?_
                    refine AllReadyH.cons rfl (fun K hK => ?_) ?_
                    · obtain ⟨z, hz, hz0, hz9⟩ := ints_at HZ58.out x6 (by omega)
                      go_simp
                      refine hK.out _ _ ?_ (fun hHeld => ?_)
                      · exact hc58
                      clear hK K
                      try simp only [Act.put, List.setIfInBounds_toArray, List.set_cons_zero, List.set_cons_succ]
                      refine wpAnyH_take (i := 14) (oi := ({ dst := some 34, op := Go.Op.build 112 #[(0, Go.Operand.tmp 25), (1, Go.Operand.tmp 28), (3, Go.Operand.tmp 33)], type := 112, pos := "l71_draw.go:277", after := #[{ on := 5, ground := Go.Ground.data }, { on := 8, ground := Go.Ground.data }, { on := 13, ground := Go.Ground.data }], guard := none } : Oper)) (v := ?_) rfl (by kernel_rfl) (by kernel_rfl) (by kernel_rfl) (fun _ _ _ h => h) (Or.inl ⟨by rfl, ?_⟩) hHeld ?_
                      rotate_left
                      · (intro w hSw; (try dsimp only at hSw); go_simp; try with_reducible rfl)
                      try simp only [Act.put, List.setIfInBounds_toArray, List.set_cons_zero, List.set_cons_succ]
                      refine wpAnyH_ready (rs := [16]) (by kernel_rfl) (by simp) ?_
                      refine AllReadyH.cons rfl (fun K hK => ?_) ?_
                      · have p0 := HX58.out.cell 0 rfl
                        have p1 := HX58.out.cell 1 rfl
                        have p2 := HX58.out.cell 2 rfl
                        have p3 := HX58.out.cell 3 rfl
                        have pf := HX58.out.free
                        go_simp
                        refine hK.out _ _ ?_ (fun hHeld => ?_)
                        · exact house_same HH58.out (house_set (house_set (house_set (house_set HH58.out (hne0 0) _) (hne0 1) _) (hne0 2) _) (hne0 3) _) hc58
                        clear hK K
                        try simp only [Act.put, List.setIfInBounds_toArray, List.set_cons_zero, List.set_cons_succ]
                        refine wpAnyH_done (by kernel_rfl) ?_ _
                        go_wp2_with fail
                        go_meet
                        refine ⟨W0.heap.size, nt, z, rfl, hns, hz0, hz9, ?_, ?_, ?_, hb0, fun b hb e => by have := HVT.out b hb; have := hl0; omega⟩
                        · exact (((HX58.out.set 0 _).set 1 _).set 2 _).set 3 _
                        · exact (((HI58.out.set HX58.out hb0 hv0 0 _).set (HX58.out.set 0 _) hb0 hv0 1 _).set ((HX58.out.set 0 _).set 1 _) hb0 hv0 2 _).set (((HX58.out.set 0 _).set 1 _).set 2 _) hb0 hv0 3 _
                        · exact house_set (house_set (house_set (house_set HH58.out (hne0 0) _) (hne0 1) _) (hne0 2) _) (hne0 3) _
                      exact AllReadyH.nil
                    exact AllReadyH.nil
                  exact AllReadyH.nil
                refine AllReadyH.cons rfl (fun K hK => ?_) ?_
                · go_simp
                  refine (pick_any B r (q + 53 * k + 1 + 44) 6 _ HI56.out.rd (by omega) (by omega) (by omega)).mono ?_
                  rintro e W59 ⟨x6, rfl, hx6, hr5, hg5⟩
                  have HI59 : Hid (WI B r (q + 53 * k + 1 + 44 + 1) w W59 u3 L) := HI56.out.step hg5 hr5
                  have HH59 : Hid (Bx 9 W59 (w.heap.size + 1) house4) := HH56.out.grown hg5 (fun e => hrH (Option.some.inj e))
                  have hc59 : W59.cell? ⟨w.heap.size + 1, k, none⟩ = some (.string hs) := house_same HH56.out HH59.out hc56
                  have HX59 : Hid (Bx 112 W59 W0.heap.size #[.string ⟨#[]⟩, .string ⟨#[]⟩, .string ⟨#[]⟩, .int .i64 0]) := HX56.out.grown hg5 (hneZ _ hb0)
                  have hl59 : w2.heap.size ≤ W59.heap.size := Nat.le_trans hl56 hg5.size
                  clear hr5 hg5
                  have hx6i : (x6 : Int) < 6 := by omega
                  have hx6z : (0 : Int) ≤ (x6 : Int) := by omega
                  refine hK.out _ _ ?_ (fun hHeld => ?_)
                  · exact hc59
                  clear hK K
                  try simp only [Act.put, List.setIfInBounds_toArray, List.set_cons_zero, List.set_cons_succ]
                  refine wpAnyH_ready (rs := [9]) (by kernel_rfl) (by simp) ?_
                  refine AllReadyH.cons rfl (fun K hK => ?_) ?_
                  · go_simp
                    obtain ⟨W60, hW60⟩ : ∃ W, W = W59.alloc (.cells #[.int .i64 0, .int .i64 0, .int .i64 0, .int .i64 1, .int .i64 2, .int .i64 5] 3) := ⟨_, rfl⟩
                    rw [← hW60]
                    have HI60 : Hid (WI B r (q + 53 * k + 1 + 44 + 1) w W60 u3 L) := by rw [hW60]; exact HI59.out.alloc _
                    have HH60 : Hid (Bx 9 W60 (w.heap.size + 1) house4) := by rw [hW60]; exact HH59.out.alloc _
                    have hc60 : W60.cell? ⟨w.heap.size + 1, k, none⟩ = some (.string hs) := house_same HH59.out HH60.out hc59
                    have hl60 : w2.heap.size ≤ W60.heap.size := by rw [hW60]; simp; omega
                    have hb59 : w.heap.size < W59.heap.size := Nat.lt_of_lt_of_le hw2 hl59
                    have HZ60 : Hid (Bx 3 W60 W59.heap.size intsW) := by rw [hW60]; exact Bx.new _ _ _
                    have HX60 : Hid (Bx 112 W60 W0.heap.size #[.string ⟨#[]⟩, .string ⟨#[]⟩, .string ⟨#[]⟩, .int .i64 0]) := by rw [hW60]; exact HX59.out.alloc _
                    clear hW60
                    refine hK.out _ _ ?_ (fun hHeld => ?_)
                    · exact hc60
                    clear hK K
                    try simp only [Act.put, List.setIfInBounds_toArray, List.set_cons_zero, List.set_cons_succ]
                    refine wpAnyH_take (i := 12) (oi := ({ dst := some 32, op := Go.Op.indexAddr 51 (Go.Operand.tmp 29) (Go.Operand.tmp 31), type := 0, pos := "l71_draw.go:277", after := #[{ on := 9, ground := Go.Ground.data }, { on := 11, ground := Go.Ground.data }], guard := none } : Oper)) (v := ?_) rfl (by kernel_rfl) (by kernel_rfl) (by kernel_rfl) (fun _ _ _ h => h) (Or.inl ⟨by rfl, ?_⟩) hHeld ?_
                    rotate_left
                    · (intro w hSw; (try dsimp only at hSw); go_simp; try with_reducible rfl)
                    try simp only [Act.put, List.setIfInBounds_toArray, List.set_cons_zero, List.set_cons_succ]
                    refine wpAnyH_ready (rs := [13]) (by kernel_rfl) (by simp) ?_
                    refine AllReadyH.cons rfl (fun K hK => ?_) ?_
                    · obtain ⟨z, hz, hz0, hz9⟩ := ints_at HZ60.out x6 (by omega)
                      go_simp
                      refine hK.out _ _ ?_ (fun hHeld => ?_)
                      · exact hc60
                      clear hK K
                      try simp only [Act.put, List.setIfInBounds_toArray, List.set_cons_zero, List.set_cons_succ]
                      refine wpAnyH_take (i := 14) (oi := ({ dst := some 34, op := Go.Op.build 112 #[(0, Go.Operand.tmp 25), (1, Go.Operand.tmp 28), (3, Go.Operand.tmp 33)], type := 112, pos := "l71_draw.go:277", after := #[{ on := 5, ground := Go.Ground.data }, { on := 8, ground := Go.Ground.data }, { on := 13, ground := Go.Ground.data }], guard := none } : Oper)) (v := ?_) rfl (by kernel_rfl) (by kernel_rfl) (by kernel_rfl) (fun _ _ _ h => h) (Or.inl ⟨by rfl, ?_⟩) hHeld ?_
                      rotate_left
                      · (intro w hSw; (try dsimp only at hSw); go_simp; try with_reducible rfl)
                      try simp only [Act.put, List.setIfInBounds_toArray, List.set_cons_zero, List.set_cons_succ]
                      refine wpAnyH_ready (rs := [16]) (by kernel_rfl) (by simp) ?_
                      refine AllReadyH.cons rfl (fun K hK => ?_) ?_
                      · have p0 := HX60.out.cell 0 rfl
                        have p1 := HX60.out.cell 1 rfl
                        have p2 := HX60.out.cell 2 rfl
                        have p3 := HX60.out.cell 3 rfl
                        have pf := HX60.out.free
                        go_simp
                        refine hK.out _ _ ?_ (fun hHeld => ?_)
                        · exact house_same HH60.out (house_set (house_set (house_set (house_set HH60.out (hne0 0) _) (hne0 1) _) (hne0 2) _) (hne0 3) _) hc60
                        clear hK K
                        try simp only [Act.put, List.setIfInBounds_toArray, List.set_cons_zero, List.set_cons_succ]
                        refine wpAnyH_done (by kernel_rfl) ?_ _
                        go_wp2_with fail
                        go_meet
                        refine ⟨W0.heap.size, nt, z, rfl, hns, hz0, hz9, ?_, ?_, ?_, hb0, fun b hb e => by have := HVT.out b hb; have := hl0; omega⟩
                        · exact (((HX60.out.set 0 _).set 1 _).set 2 _).set 3 _
                        · exact (((HI60.out.set HX60.out hb0 hv0 0 _).set (HX60.out.set 0 _) hb0 hv0 1 _).set ((HX60.out.set 0 _).set 1 _) hb0 hv0 2 _).set (((HX60.out.set 0 _).set 1 _).set 2 _) hb0 hv0 3 _
                        · exact house_set (house_set (house_set (house_set HH60.out (hne0 0) _) (hne0 1) _) (hne0 2) _) (hne0 3) _
                      exact AllReadyH.nil
                    exact AllReadyH.nil
                  exact AllReadyH.nil
                exact AllReadyH.nil
              refine AllReadyH.cons rfl (fun K hK => ?_) ?_
              · go_simp
                obtain ⟨W61, hW61⟩ : ∃ W, W = W55.alloc (.cells #[.int .i64 0, .int .i64 0, .int .i64 0, .int .i64 1, .int .i64 2, .int .i64 5] 3) := ⟨_, rfl⟩
                rw [← hW61]
                have HI61 : Hid (WI B r (q + 53 * k + 1 + 44) w W61 u3 L) := by rw [hW61]; exact HI55.out.alloc _
                have HH61 : Hid (Bx 9 W61 (w.heap.size + 1) house4) := by rw [hW61]; exact HH55.out.alloc _
                have hc61 : W61.cell? ⟨w.heap.size + 1, k, none⟩ = some (.string hs) := house_same HH55.out HH61.out hc55
                have hl61 : w2.heap.size ≤ W61.heap.size := by rw [hW61]; simp; omega
                have hb55 : w.heap.size < W55.heap.size := Nat.lt_of_lt_of_le hw2 hl55
                have HG61 : Hid (IsRows FGr W61 a3 c3 Lg ∧ GrsAt W61 Lg) := by rw [hW61]; exact ⟨IsRows.keep HG55.out.1 (alloc_keep _ _), GrsAt.keep HG55.out.2 (alloc_keep _ _)⟩
                have HZ61 : Hid (Bx 3 W61 W55.heap.size intsW) := by rw [hW61]; exact Bx.new _ _ _
                have HX61 : Hid (Bx 112 W61 W0.heap.size #[.string ⟨#[]⟩, .string ⟨#[]⟩, .string ⟨#[]⟩, .int .i64 0]) := by rw [hW61]; exact HX55.out.alloc _
                clear hW61
                refine hK.out _ _ ?_ (fun hHeld => ?_)
                · exact hc61
                clear hK K
                try simp only [Act.put, List.setIfInBounds_toArray, List.set_cons_zero, List.set_cons_succ]
                refine wpAnyH_ready (rs := [8]) (by kernel_rfl) (by simp) ?_
                refine AllReadyH.cons rfl (fun K hK => ?_) ?_
                · go_simp
                  refine (specNText_any a3 c3 Lg _ HG61.out.1 HG61.out.2 (fun g hg => (HBG.out g hg).sz) (by omega)).mono ?_
                  rintro e W62 ⟨rfl, hb4⟩
                  have hns := notice_ok Lg
                  have HI62 : Hid (WI B r (q + 53 * k + 1 + 44) w W62 u3 L) := HI61.out.below hb4
                  have HH62 : Hid (Bx 9 W62 (w.heap.size + 1) house4) := HH61.out.keep (fun k hk => hb4.block k hk)
                  have hc62 : W62.cell? ⟨w.heap.size + 1, k, none⟩ = some (.string hs) := house_same HH61.out HH62.out hc61
                  have HZ62 : Hid (Bx 3 W62 W55.heap.size intsW) := HZ61.out.keep (fun k hk => hb4.block k hk)
                  have HX62 : Hid (Bx 112 W62 W0.heap.size #[.string ⟨#[]⟩, .string ⟨#[]⟩, .string ⟨#[]⟩, .int .i64 0]) := HX61.out.keep (fun k hk => hb4.block k hk)
                  have hl62 : w2.heap.size ≤ W62.heap.size := Nat.le_trans hl61 hb4.size
                  clear hb4
                  generalize ntS Lg = nt at *
                  refine hK.out _ _ ?_ (fun hHeld => ?_)
                  · exact hc62
                  clear hK K
                  try simp only [Act.put, List.setIfInBounds_toArray, List.set_cons_zero, List.set_cons_succ]
                  refine wpAnyH_ready (rs := [11]) (by kernel_rfl) (by simp) ?_
                  refine AllReadyH.cons rfl (fun K hK => ?_) ?_
                  · go_simp
                    refine (pick_any B r (q + 53 * k + 1 + 44) 6 _ HI62.out.rd (by omega) (by omega) (by omega)).mono ?_
                    rintro e W63 ⟨x6, rfl, hx6, hr5, hg5⟩
                    have HI63 : Hid (WI B r (q + 53 * k + 1 + 44 + 1) w W63 u3 L) := HI62.out.step hg5 hr5
                    have HH63 : Hid (Bx 9 W63 (w.heap.size + 1) house4) := HH62.out.grown hg5 (fun e => hrH (Option.some.inj e))
                    have hc63 : W63.cell? ⟨w.heap.size + 1, k, none⟩ = some (.string hs) := house_same HH62.out HH63.out hc62
                    have HZ63 : Hid (Bx 3 W63 W55.heap.size intsW) := HZ62.out.grown hg5 (hneZ _ hb55)
                    have HX63 : Hid (Bx 112 W63 W0.heap.size #[.string ⟨#[]⟩, .string ⟨#[]⟩, .string ⟨#[]⟩, .int .i64 0]) := HX62.out.grown hg5 (hneZ _ hb0)
                    have hl63 : w2.heap.size ≤ W63.heap.size := Nat.le_trans hl62 hg5.size
                    clear hr5 hg5
                    have hx6i : (x6 : Int) < 6 := by omega
                    have hx6z : (0 : Int) ≤ (x6 : Int) := by omega
                    refine hK.out _ _ ?_ (fun hHeld => ?_)
                    · exact hc63
                    clear hK K
                    try simp only [Act.put, List.setIfInBounds_toArray, List.set_cons_zero, List.set_cons_succ]
                    refine wpAnyH_take (i := 12) (oi := ({ dst := some 32, op := Go.Op.indexAddr 51 (Go.Operand.tmp 29) (Go.Operand.tmp 31), type := 0, pos := "l71_draw.go:277", after := #[{ on := 9, ground := Go.Ground.data }, { on := 11, ground := Go.Ground.data }], guard := none } : Oper)) (v := ?_) rfl (by kernel_rfl) (by kernel_rfl) (by kernel_rfl) (fun _ _ _ h => h) (Or.inl ⟨by rfl, ?_⟩) hHeld ?_
                    rotate_left
                    · (intro w hSw; (try dsimp only at hSw); go_simp; try with_reducible rfl)
                    try simp only [Act.put, List.setIfInBounds_toArray, List.set_cons_zero, List.set_cons_succ]
                    refine wpAnyH_ready (rs := [13]) (by kernel_rfl) (by simp) ?_
                    refine AllReadyH.cons rfl (fun K hK => ?_) ?_
                    · obtain ⟨z, hz, hz0, hz9⟩ := ints_at HZ63.out x6 (by omega)
                      go_simp
                      refine hK.out _ _ ?_ (fun hHeld => ?_)
                      · exact hc63
                      clear hK K
                      try simp only [Act.put, List.setIfInBounds_toArray, List.set_cons_zero, List.set_cons_succ]
                      refine wpAnyH_take (i := 14) (oi := ({ dst := some 34, op := Go.Op.build 112 #[(0, Go.Operand.tmp 25), (1, Go.Operand.tmp 28), (3, Go.Operand.tmp 33)], type := 112, pos := "l71_draw.go:277", after := #[{ on := 5, ground := Go.Ground.data }, { on := 8, ground := Go.Ground.data }, { on := 13, ground := Go.Ground.data }], guard := none } : Oper)) (v := ?_) rfl (by kernel_rfl) (by kernel_rfl) (by kernel_rfl) (fun _ _ _ h => h) (Or.inl ⟨by rfl, ?_⟩) hHeld ?_
                      rotate_left
                      · (intro w hSw; (try dsimp only at hSw); go_simp; try with_reducible rfl)
                      try simp only [Act.put, List.setIfInBounds_toArray, List.set_cons_zero, List.set_cons_succ]
                      refine wpAnyH_ready (rs := [16]) (by kernel_rfl) (by simp) ?_
                      refine AllReadyH.cons rfl (fun K hK => ?_) ?_
                      · have p0 := HX63.out.cell 0 rfl
                        have p1 := HX63.out.cell 1 rfl
                        have p2 := HX63.out.cell 2 rfl
                        have p3 := HX63.out.cell 3 rfl
                        have pf := HX63.out.free
                        go_simp
                        refine hK.out _ _ ?_ (fun hHeld => ?_)
                        · exact house_same HH63.out (house_set (house_set (house_set (house_set HH63.out (hne0 0) _) (hne0 1) _) (hne0 2) _) (hne0 3) _) hc63
                        clear hK K
                        try simp only [Act.put, List.setIfInBounds_toArray, List.set_cons_zero, List.set_cons_succ]
                        refine wpAnyH_done (by kernel_rfl) ?_ _
                        go_wp2_with fail
                        go_meet
                        refine ⟨W0.heap.size, nt, z, rfl, hns, hz0, hz9, ?_, ?_, ?_, hb0, fun b hb e => by have := HVT.out b hb; have := hl0; omega⟩
                        · exact (((HX63.out.set 0 _).set 1 _).set 2 _).set 3 _
                        · exact (((HI63.out.set HX63.out hb0 hv0 0 _).set (HX63.out.set 0 _) hb0 hv0 1 _).set ((HX63.out.set 0 _).set 1 _) hb0 hv0 2 _).set (((HX63.out.set 0 _).set 1 _).set 2 _) hb0 hv0 3 _
                        · exact house_set (house_set (house_set (house_set HH63.out (hne0 0) _) (hne0 1) _) (hne0 2) _) (hne0 3) _
                      exact AllReadyH.nil
                    exact AllReadyH.nil
                  exact AllReadyH.nil
                exact AllReadyH.nil
              exact AllReadyH.nil
            refine AllReadyH.cons rfl (fun K hK => ?_) ?_
            · go_simp
              obtain ⟨W64, hW64⟩ : ∃ W, W = W54.alloc (.cells #[.int .i64 0, .int .i64 0, .int .i64 0, .int .i64 1, .int .i64 2, .int .i64 5] 3) := ⟨_, rfl⟩
              rw [← hW64]
              have HI64 : Hid (WI B r (q + 53 * k + 1) w W64 u3 L) := by rw [hW64]; exact HI54.out.alloc _
              have HH64 : Hid (Bx 9 W64 (w.heap.size + 1) house4) := by rw [hW64]; exact HH54.out.alloc _
              have hc64 : W64.cell? ⟨w.heap.size + 1, k, none⟩ = some (.string hs) := house_same HH54.out HH64.out hc54
              have hl64 : w2.heap.size ≤ W64.heap.size := by rw [hW64]; simp; omega
              have hb54 : w.heap.size < W54.heap.size := Nat.lt_of_lt_of_le hw2 hl54
              have HZ64 : Hid (Bx 3 W64 W54.heap.size intsW) := by rw [hW64]; exact Bx.new _ _ _
              have HX64 : Hid (Bx 112 W64 W0.heap.size #[.string ⟨#[]⟩, .string ⟨#[]⟩, .string ⟨#[]⟩, .int .i64 0]) := by rw [hW64]; exact HX54.out.alloc _
              clear hW64
              refine hK.out _ _ ?_ (fun hHeld => ?_)
              · exact hc64
              clear hK K
              try simp only [Act.put, List.setIfInBounds_toArray, List.set_cons_zero, List.set_cons_succ]
              refine wpAnyH_ready (rs := [7]) (by kernel_rfl) (by simp) ?_
              refine AllReadyH.cons rfl (fun K hK => ?_) ?_
              · go_simp
                refine (groups_any B r (q + 53 * k + 1) _ HI64.out.rd (by omega)).mono ?_
                rintro e W65 ⟨Lg, a3, c3, rfl, hGI, hAp, hlg, hbg⟩
                have HI65 : Hid (WI B r (q + 53 * k + 1 + 44) w W65 u3 L) := HI64.out.step hGI.2.2.2.1 hGI.2.2.1
                have HH65 : Hid (Bx 9 W65 (w.heap.size + 1) house4) := HH64.out.grown hGI.2.2.2.1 (fun e => hrH (Option.some.inj e))
                have hc65 : W65.cell? ⟨w.heap.size + 1, k, none⟩ = some (.string hs) := house_same HH64.out HH65.out hc64
                have HZ65 : Hid (Bx 3 W65 W54.heap.size intsW) := HZ64.out.grown hGI.2.2.2.1 (hneZ _ hb54)
                have HX65 : Hid (Bx 112 W65 W0.heap.size #[.string ⟨#[]⟩, .string ⟨#[]⟩, .string ⟨#[]⟩, .int .i64 0]) := HX64.out.grown hGI.2.2.2.1 (hneZ _ hb0)
                have HG65 : Hid (IsRows FGr W65 a3 c3 Lg ∧ GrsAt W65 Lg) := ⟨OwnsR.rowsOf hGI.1, hGI.2.1.at⟩
                have HBG : Hid (∀ g ∈ Lg, GrBd g) := hbg
                have hl65 : w2.heap.size ≤ W65.heap.size := Nat.le_trans hl64 hGI.2.2.2.1.size
                clear hGI hAp hbg
                refine hK.out _ _ ?_ (fun hHeld => ?_)
                · exact hc65
                clear hK K
                try simp only [Act.put, List.setIfInBounds_toArray, List.set_cons_zero, List.set_cons_succ]
                refine wpAnyH_ready (rs := [8]) (by kernel_rfl) (by simp) ?_
                refine AllReadyH.cons rfl (fun K hK => ?_) ?_
                · go_simp
                  refine (specNText_any a3 c3 Lg _ HG65.out.1 HG65.out.2 (fun g hg => (HBG.out g hg).sz) (by omega)).mono ?_
                  rintro e W66 ⟨rfl, hb4⟩
                  have hns := notice_ok Lg
                  have HI66 : Hid (WI B r (q + 53 * k + 1 + 44) w W66 u3 L) := HI65.out.below hb4
                  have HH66 : Hid (Bx 9 W66 (w.heap.size + 1) house4) := HH65.out.keep (fun k hk => hb4.block k hk)
                  have hc66 : W66.cell? ⟨w.heap.size + 1, k, none⟩ = some (.string hs) := house_same HH65.out HH66.out hc65
                  have HZ66 : Hid (Bx 3 W66 W54.heap.size intsW) := HZ65.out.keep (fun k hk => hb4.block k hk)
                  have HX66 : Hid (Bx 112 W66 W0.heap.size #[.string ⟨#[]⟩, .string ⟨#[]⟩, .string ⟨#[]⟩, .int .i64 0]) := HX65.out.keep (fun k hk => hb4.block k hk)
                  have hl66 : w2.heap.size ≤ W66.heap.size := Nat.le_trans hl65 hb4.size
                  clear hb4
                  generalize ntS Lg = nt at *
                  refine hK.out _ _ ?_ (fun hHeld => ?_)
                  · exact hc66
                  clear hK K
                  try simp only [Act.put, List.setIfInBounds_toArray, List.set_cons_zero, List.set_cons_succ]
                  refine wpAnyH_ready (rs := [11]) (by kernel_rfl) (by simp) ?_
                  refine AllReadyH.cons rfl (fun K hK => ?_) ?_
                  · go_simp
                    refine (pick_any B r (q + 53 * k + 1 + 44) 6 _ HI66.out.rd (by omega) (by omega) (by omega)).mono ?_
                    rintro e W67 ⟨x6, rfl, hx6, hr5, hg5⟩
                    have HI67 : Hid (WI B r (q + 53 * k + 1 + 44 + 1) w W67 u3 L) := HI66.out.step hg5 hr5
                    have HH67 : Hid (Bx 9 W67 (w.heap.size + 1) house4) := HH66.out.grown hg5 (fun e => hrH (Option.some.inj e))
                    have hc67 : W67.cell? ⟨w.heap.size + 1, k, none⟩ = some (.string hs) := house_same HH66.out HH67.out hc66
                    have HZ67 : Hid (Bx 3 W67 W54.heap.size intsW) := HZ66.out.grown hg5 (hneZ _ hb54)
                    have HX67 : Hid (Bx 112 W67 W0.heap.size #[.string ⟨#[]⟩, .string ⟨#[]⟩, .string ⟨#[]⟩, .int .i64 0]) := HX66.out.grown hg5 (hneZ _ hb0)
                    have hl67 : w2.heap.size ≤ W67.heap.size := Nat.le_trans hl66 hg5.size
                    clear hr5 hg5
                    have hx6i : (x6 : Int) < 6 := by omega
                    have hx6z : (0 : Int) ≤ (x6 : Int) := by omega
                    refine hK.out _ _ ?_ (fun hHeld => ?_)
                    · exact hc67
                    clear hK K
                    try simp only [Act.put, List.setIfInBounds_toArray, List.set_cons_zero, List.set_cons_succ]
                    refine wpAnyH_take (i := 12) (oi := ({ dst := some 32, op := Go.Op.indexAddr 51 (Go.Operand.tmp 29) (Go.Operand.tmp 31), type := 0, pos := "l71_draw.go:277", after := #[{ on := 9, ground := Go.Ground.data }, { on := 11, ground := Go.Ground.data }], guard := none } : Oper)) (v := ?_) rfl (by kernel_rfl) (by kernel_rfl) (by kernel_rfl) (fun _ _ _ h => h) (Or.inl ⟨by rfl, ?_⟩) hHeld ?_
                    rotate_left
                    · (intro w hSw; (try dsimp only at hSw); go_simp; try with_reducible rfl)
                    try simp only [Act.put, List.setIfInBounds_toArray, List.set_cons_zero, List.set_cons_succ]
                    refine wpAnyH_ready (rs := [13]) (by kernel_rfl) (by simp) ?_
                    refine AllReadyH.cons rfl (fun K hK => ?_) ?_
                    · obtain ⟨z, hz, hz0, hz9⟩ := ints_at HZ67.out x6 (by omega)
                      go_simp
                      refine hK.out _ _ ?_ (fun hHeld => ?_)
                      · exact hc67
                      clear hK K
                      try simp only [Act.put, List.setIfInBounds_toArray, List.set_cons_zero, List.set_cons_succ]
                      refine wpAnyH_take (i := 14) (oi := ({ dst := some 34, op := Go.Op.build 112 #[(0, Go.Operand.tmp 25), (1, Go.Operand.tmp 28), (3, Go.Operand.tmp 33)], type := 112, pos := "l71_draw.go:277", after := #[{ on := 5, ground := Go.Ground.data }, { on := 8, ground := Go.Ground.data }, { on := 13, ground := Go.Ground.data }], guard := none } : Oper)) (v := ?_) rfl (by kernel_rfl) (by kernel_rfl) (by kernel_rfl) (fun _ _ _ h => h) (Or.inl ⟨by rfl, ?_⟩) hHeld ?_
                      rotate_left
                      · (intro w hSw; (try dsimp only at hSw); go_simp; try with_reducible rfl)
                      try simp only [Act.put, List.setIfInBounds_toArray, List.set_cons_zero, List.set_cons_succ]
                      refine wpAnyH_ready (rs := [16]) (by kernel_rfl) (by simp) ?_
                      refine AllReadyH.cons rfl (fun K hK => ?_) ?_
                      · have p0 := HX67.out.cell 0 rfl
                        have p1 := HX67.out.cell 1 rfl
                        have p2 := HX67.out.cell 2 rfl
                        have p3 := HX67.out.cell 3 rfl
                        have pf := HX67.out.free
                        go_simp
                        refine hK.out _ _ ?_ (fun hHeld => ?_)
                        · exact house_same HH67.out (house_set (house_set (house_set (house_set HH67.out (hne0 0) _) (hne0 1) _) (hne0 2) _) (hne0 3) _) hc67
                        clear hK K
                        try simp only [Act.put, List.setIfInBounds_toArray, List.set_cons_zero, List.set_cons_succ]
                        refine wpAnyH_done (by kernel_rfl) ?_ _
                        go_wp2_with fail
                        go_meet
                        refine ⟨W0.heap.size, nt, z, rfl, hns, hz0, hz9, ?_, ?_, ?_, hb0, fun b hb e => by have := HVT.out b hb; have := hl0; omega⟩
                        · exact (((HX67.out.set 0 _).set 1 _).set 2 _).set 3 _
                        · exact (((HI67.out.set HX67.out hb0 hv0 0 _).set (HX67.out.set 0 _) hb0 hv0 1 _).set ((HX67.out.set 0 _).set 1 _) hb0 hv0 2 _).set (((HX67.out.set 0 _).set 1 _).set 2 _) hb0 hv0 3 _
                        · exact house_set (house_set (house_set (house_set HH67.out (hne0 0) _) (hne0 1) _) (hne0 2) _) (hne0 3) _
                      exact AllReadyH.nil
                    exact AllReadyH.nil
                  exact AllReadyH.nil
                exact AllReadyH.nil
              exact AllReadyH.nil
            exact AllReadyH.nil
          exact AllReadyH.nil
        case rest =>
          obtain ⟨G, t, z, rfl, htn, hz0', hz9, HX, HI3, HH3, hG, hGv⟩ := hcut
          have ht : t.size ≤ 840 := htn.1
          have HNW : Hid (NrT.NwT t) := htn.2
          clear htn
          have hha : (((⟨#[47, 47]⟩ : ByteArray) ++ hs ++ (⟨#[47, 110, 111, 116, 105, 99, 101]⟩ : ByteArray))).size ≤ 100 := by
            have e1 : (⟨#[47, 47]⟩ : ByteArray).size = 2 := rfl
            have e2 : (⟨#[47, 110, 111, 116, 105, 99, 101]⟩ : ByteArray).size = 7 := rfl
            rw [ByteArray.size_append, ByteArray.size_append]; omega
          generalize ((⟨#[47, 47]⟩ : ByteArray) ++ hs ++ (⟨#[47, 110, 111, 116, 105, 99, 101]⟩ : ByteArray)) = ha at *
          have hvG : u3.ownBlock ≠ some G := fun e => hGv G e rfl
          have hGh : w.heap.size + 1 ≠ G := fun e => by
            have h1 := HX.out
            have h2 := HH3.out
            unfold Bx at h1 h2
            rw [e, h1] at h2
            injection h2 with h2
            injection h2 with _ h2
            exact absurd h2 (by decide)
          have hGset : ∀ j : Nat, (⟨G, j, none⟩ : Addr).block ≠ w.heap.size + 1 := fun j e => hGh e.symm
          go_wp2_with fail
          refine (pick_any B r _ 12 _ HI3.out.rd (by omega) (by omega) (by omega)).mono ?_
          rintro e w4 ⟨y, rfl, hy, hr4, hg4⟩
          have HI4 : Hid (WI B r (q + 53 * k + 1 + 44 + 1 + 1) w w4 u3 L) := HI3.out.step hg4 hr4
          have HH4 : Hid (Bx 9 w4 (w.heap.size + 1) house4) := HH3.out.grown hg4 (fun e => hrH (Option.some.inj e))
          have HX4 : Hid (Bx 112 w4 G #[.string ha, .string t, .string ⟨#[]⟩, .int .i64 z]) := HX.out.grown hg4 (hneZ G hG)
          clear hr4 hg4 HX HI3 HH3
          by_cases hy0 : y = 0
          · subst hy0
            have d0 := HX4.out.cell 0 rfl
            have d1 := HX4.out.cell 1 rfl
            have d2 := HX4.out.cell 2 rfl
            have d3 := HX4.out.cell 3 rfl
            have fz := HX4.out.free
            have HI5 : Hid (WI B r (q + 53 * k + 1 + 44 + 1 + 1) w (w4.setCell ⟨G, 1, none⟩ (.string ⟨#[]⟩)) u3 L) := HI4.out.set HX4.out hG hvG 1 _
            have HX5 : Hid (Bx 112 (w4.setCell ⟨G, 1, none⟩ (.string ⟨#[]⟩)) G #[.string ha, .string ⟨#[]⟩, .string ⟨#[]⟩, .int .i64 z]) := HX4.out.set 1 _
            have HH5 : Hid (Bx 9 (w4.setCell ⟨G, 1, none⟩ (.string ⟨#[]⟩)) (w.heap.size + 1) house4) := house_set HH4.out (hGset 1) _
            go_wp2_with fail
            refine (addr_small B r _ _ HI5.out.rd (by omega)).mono ?_
            rintro e w6 ⟨ld, rfl, _, hr6, hg6, _, hld⟩
            have HI6 : Hid (WI B r (q + 53 * k + 1 + 44 + 1 + 1 + 6) w w6 u3 L) := HI5.out.step hg6 hr6
            have HX6 : Hid (Bx 112 w6 G #[.string ha, .string ⟨#[]⟩, .string ⟨#[]⟩, .int .i64 z]) := HX5.out.grown hg6 (hneZ G hG)
            have HH6 : Hid (Bx 9 w6 (w.heap.size + 1) house4) := HH5.out.grown hg6 (fun e => hrH (Option.some.inj e))
            clear hr6 hg6 HI5 HX5 HH5 d0 d1 d2 d3 fz HI4 HX4 HH4
            have d0 := HX6.out.cell 0 rfl
            have d1 := HX6.out.cell 1 rfl
            have d2 := HX6.out.cell 2 rfl
            have d3 := HX6.out.cell 3 rfl
            have fz := HX6.out.free
            have HI7 : Hid (WI B r (q + 53 * k + 1 + 44 + 1 + 1 + 6) w (w6.setCell ⟨G, 2, none⟩ (.string ld)) u3 L) := HI6.out.set HX6.out hG hvG 2 _
            have HX7 : Hid (Bx 112 (w6.setCell ⟨G, 2, none⟩ (.string ld)) G #[.string ha, .string ⟨#[]⟩, .string ld, .int .i64 z]) := HX6.out.set 2 _
            have HH7 : Hid (Bx 9 (w6.setCell ⟨G, 2, none⟩ (.string ld)) (w.heap.size + 1) house4) := house_set HH6.out (hGset 2) _
            have e0 := HX7.out.cell 0 rfl
            have e1 := HX7.out.cell 1 rfl
            have e2 := HX7.out.cell 2 rfl
            have e3 := HX7.out.cell 3 rfl
            obtain ⟨p9, hp9⟩ : ∃ p9 : Pg, p9 = ⟨ha, ⟨#[]⟩, ld, z⟩ := ⟨_, rfl⟩
            have HE9 : Hid (FPg.enc p9 = [.string ha, .string ⟨#[]⟩, .string ld, .int .i64 z]) := by rw [hp9]; rfl
            have HB9 : Hid (PgBd p9) := by rw [hp9]; exact ⟨hha, by show (0 : Nat) ≤ 300; omega, by show ld.size ≤ 100; omega, hz0', by show z ≤ 10; omega, NrT.nw_empty⟩
            clear hp9
            have d0 := HX7.out.cell 0 rfl
            have d1 := HX7.out.cell 1 rfl
            have d2 := HX7.out.cell 2 rfl
            have d3 := HX7.out.cell 3 rfl
            have HS9 : Hid ((w6.setCell ⟨G, 2, none⟩ (.string ld)).heap.size = w6.heap.size) := by show _ = _; simp [World.setCell]
            go_wp2_with (at_builtin; refine wpList_append_own _ rfl _ _ 43 rfl w.heap.size 112 i0 (.agg #[.string ⟨#[]⟩, .string ⟨#[]⟩, .string ⟨#[]⟩, .int .i64 0]) 4 56 Tryz.underlying43 hi hz0 hz1 hz2 rfl (by decide) _ _ _ rfl (HI7.out.alloc _).1 ⟨w6.heap.size, 0, none⟩ 1 1 (FPg.enc p9) rfl rfl (HE9.out ▸ cell_four_newE HS9.out _ _ _ _ _) (FPg.one p9) ?c3 ?c4 ?c5 ?_)
            case c3 => unfold maxLen; omega
            case c4 => omega
            case c5 => have := HI7.out.2.2.2.1; simp at this ⊢; omega
            intro v8 w8 hown8 hgrow8 _
            have HI8 : Hid (WI B r (q + 53 * k + 1 + 44 + 1 + 1 + 6) w w8 v8 (L ++ [p9])) := (HI7.out.alloc _).more hown8 hgrow8
            have HL8 : Hid (PgsBd (L ++ [p9])) := PgsBd.snoc HL.out HB9.out
            have HH8 : Hid (Bx 9 w8 (w.heap.size + 1) house4) := (HH7.out.alloc _).other (HI7.out.alloc _).1 (by decide) hgrow8
            clear hown8 hgrow8
            go_wp2
            go_roundg g
            case rel => exact ⟨k + 1, L ++ [p9], by omega, by go_num, by first | omega | (simp; omega), HL8, HI8.out.mono (by omega), HH8⟩
            case measure => omega
          · have hy1 : ((y : Int) == 0) = false := by simp; omega
            have d0 := HX4.out.cell 0 rfl
            have d1 := HX4.out.cell 1 rfl
            have d2 := HX4.out.cell 2 rfl
            have d3 := HX4.out.cell 3 rfl
            by_cases ht3 : t.size ≤ 300
            · have ht3' : decide ((t.size : Int) ≤ 300) = true := decide_eq_true (by omega)
              obtain ⟨p9, hp9⟩ : ∃ p9 : Pg, p9 = ⟨ha, t, ⟨#[]⟩, z⟩ := ⟨_, rfl⟩
              have HE9 : Hid (FPg.enc p9 = [.string ha, .string t, .string ⟨#[]⟩, .int .i64 z]) := by rw [hp9]; rfl
              have HB9 : Hid (PgBd p9) := by rw [hp9]; exact ⟨hha, ht3, by show (0 : Nat) ≤ 100; omega, hz0', by show z ≤ 10; omega, HNW.out⟩
              clear hp9
              have d0 := HX4.out.cell 0 rfl
              have d1 := HX4.out.cell 1 rfl
              have d2 := HX4.out.cell 2 rfl
              have d3 := HX4.out.cell 3 rfl

              go_wp2_with (at_builtin; refine wpList_append_own _ rfl _ _ 43 rfl w.heap.size 112 i0 (.agg #[.string ⟨#[]⟩, .string ⟨#[]⟩, .string ⟨#[]⟩, .int .i64 0]) 4 56 Tryz.underlying43 hi hz0 hz1 hz2 rfl (by decide) _ _ _ rfl (HI4.out.alloc _).1 ⟨w4.heap.size, 0, none⟩ 1 1 (FPg.enc p9) rfl rfl (HE9.out ▸ cell_four_newE rfl _ _ _ _ _) (FPg.one p9) ?c3 ?c4 ?c5 ?_)
              case c3 => unfold maxLen; omega
              case c4 => omega
              case c5 => have := HI4.out.2.2.2.1; simp at this ⊢; omega
              intro v8 w8 hown8 hgrow8 _
              have HI8 : Hid (WI B r (q + 53 * k + 1 + 44 + 1 + 1) w w8 v8 (L ++ [p9])) := (HI4.out.alloc _).more hown8 hgrow8
              have HL8 : Hid (PgsBd (L ++ [p9])) := PgsBd.snoc HL.out HB9.out
              have HH8 : Hid (Bx 9 w8 (w.heap.size + 1) house4) := (HH4.out.alloc _).other (HI4.out.alloc _).1 (by decide) hgrow8
              clear hown8 hgrow8
              go_wp2
              go_roundg g
              case rel => exact ⟨k + 1, L ++ [p9], by omega, by go_num, by first | omega | (simp; omega), HL8, HI8.out.mono (by omega), HH8⟩
              case measure => omega
            · have ht3' : decide ((t.size : Int) ≤ 300) = false := decide_eq_false (by omega)
              go_wp2
              go_roundg g
              case rel => exact ⟨k + 1, L, by omega, by go_num, by first | omega | (simp; omega), HL, HI4.out.mono (by omega), HH4⟩
              case measure => omega
      · have hx1 : ((x : Int) == 0) = false := by simp; omega
        go_wp2
        go_roundg g
        case rel => exact ⟨k + 1, L, by omega, by go_num, by omega, HL, HI2.out.mono (by omega), HH2⟩
        case measure => omega
    · have ek : k = 4 := by omega
      subst ek
      have hrh := HI.out.2.2.2.1
      go_wp2_with fail
      refine (pick_any B r _ 7 _ HI.out.rd (by omega) (by omega) (by omega)).mono ?_
      rintro e w2 ⟨x, rfl, hx, hr2, hg2⟩
      have HI2 : Hid (WI B r (q + 213) w w2 u3 L) := (HI.out.step hg2 hr2).mono (by omega)
      clear hr2 hg2 hrh HI HH
      have hn7 : (2 : Int) + (x : Int) = ((2 + x : Nat) : Int) := by omega
      have HN7 : Hid (2 ≤ 2 + x ∧ 2 + x ≤ 8) := by show _ ∧ _; omega
      obtain ⟨m0, hm0⟩ : ∃ m0, 2 + x = m0 := ⟨_, rfl⟩
      rw [hm0] at HN7
      have hm1 : (2 : Int) + (x : Int) = (m0 : Int) := by omega
      have hmw : IntKind.i64.wrap ((2 : Int) + (x : Int)) = (m0 : Int) := by rw [hm1]; exact IntWalk.i64_in _ (by have := HN7.out; omega)
      clear hn7 hm0
      go_wp2
      go_loopg [3, 7] m0 (fun g v i wr => ∃ (L : List Pg), i = .int .i64 (g : Int) ∧ L.length + g ≤ 12 ∧ g ≤ 8 ∧ Hid (g = m0 ∨ 1 ≤ L.length) ∧ Hid (PgsBd L) ∧ Hid (WI B r (q + 213 + 84 * (8 - g)) w wr v L))
      case atStart => exact ⟨L, by first | rfl | (rw [hm1]), by have := HN7.out; omega, by have := HN7.out; omega, Or.inl rfl, HL, HI2.out.mono (by omega)⟩
      case round =>
        obtain ⟨L, rfl, hLg, hg8, HM, HL, HI⟩ := hrel
        obtain ⟨a1, c1, hv1, _⟩ := OwnsR.rows HI.out.1
        subst hv1
        rcases gk with _ | g
        · have hfin : 1 ≤ L.length := by
            rcases HM.out with h | h
            · have := HN7.out; omega
            · exact h
          go_wp2
          go_ret
          exact ⟨L, a1, c1, rfl, HI.out.mono (by omega), by omega, hfin, HL.out⟩
        · have hgp : decide ((0 : Int) < (g : Int) + 1) = true := decide_eq_true (by omega)
          have hgw : IntKind.i64.wrap ((g : Int) + 1 - 1) = (g : Int) := by rw [show (g : Int) + 1 - 1 = (g : Int) by omega]; exact IntWalk.i64_in _ (by omega)
          have hwh := HI.out.2.2.2.1
          have hneZ : ∀ G, w.heap.size < G → some r ≠ some G := fun G hG e => by have := Option.some.inj e; omega
          have HSM : Hid (∀ s : ByteArray, (L.find? (sameA s)).isSome = true → 1 ≤ L.length) := fun s hs => by
            cases L with
            | nil => simp at hs
            | cons x R => simp
          go_wp2_with fail
          refine (addr_small B r _ _ HI.out.rd (by omega)).mono ?_
          rintro e w2 ⟨s, rfl, _, hr2, hg2, _, hs⟩
          have HI2 : Hid (WI B r (q + 213 + 84 * (8 - (g + 1)) + 6) w w2 (.slice a1 L.length c1) L) := HI.out.step hg2 hr2
          clear hr2 hg2 HI
          go_wp2_with fail
          refine (page_small B r _ _ HI2.out.rd (by omega)).mono ?_
          rintro e w3 ⟨t, rfl, ht, hag, hr3, hg3⟩
          have HPW : Hid (NrT.NwT t) := nw_page hag.1 hag.2
          clear hag
          have HI3 : Hid (WI B r (q + 213 + 84 * (8 - (g + 1)) + 6 + 70) w w3 (.slice a1 L.length c1) L) := HI2.out.step hg3 hr3
          have hw3 := HI3.out.2.2.2.1
          clear hr3 hg3 HI2
          go_wp2_with fail
          refine (pick_any B r _ 7 _ (HI3.out.rd.alloc _) (by omega) (by omega) (by omega)).mono ?_
          rintro e w4 ⟨x, rfl, hx, hr4, hg4⟩
          have HI4 : Hid (WI B r (q + 213 + 84 * (8 - (g + 1)) + 6 + 70 + 1) w w4 (.slice a1 L.length c1) L) := (HI3.out.alloc _).step hg4 hr4
          have HZ4 : Hid (Bx 3 w4 w3.heap.size ints7) := (Bx.new 3 w3 ints7).grown hg4 (hneZ w3.heap.size hw3)
          obtain ⟨z, hz, hz0', hz9⟩ := ints7_at HZ4.out x (by omega)
          have hxi : (x : Int) < 7 := by omega
          have hxz : (0 : Int) ≤ (x : Int) := by omega
          have hw4 := HI4.out.2.2.2.1
          have hvG : (Value.slice a1 L.length c1).ownBlock ≠ some w4.heap.size := fun e => by have := own_lt HI4.out.1 _ e; omega
          clear hr4 hg4 HI3 HZ4
          go_wp2_with fail
          refine (pick_any B r _ 8 _ (HI4.out.rd.alloc _) (by omega) (by omega) (by omega)).mono ?_
          rintro e w5 ⟨y, rfl, hy, hr5, hg5⟩
          have HI5 : Hid (WI B r (q + 213 + 84 * (8 - (g + 1)) + 6 + 70 + 1 + 1) w w5 (.slice a1 L.length c1) L) := (HI4.out.alloc _).step hg5 hr5
          have HX5 : Hid (Bx 112 w5 w4.heap.size #[.string s, .string t, .string ⟨#[]⟩, .int .i64 z]) := (Bx.new 112 w4 _).grown hg5 (hneZ w4.heap.size hw4)
          obtain ⟨G, hG⟩ : ∃ G, w4.heap.size = G := ⟨_, rfl⟩
          rw [hG] at HX5 hvG hw4
          clear hr5 hg5 HI4 hz
          have d0 := HX5.out.cell 0 rfl
          have d1 := HX5.out.cell 1 rfl
          have d2 := HX5.out.cell 2 rfl
          have d3 := HX5.out.cell 3 rfl
          have fz := HX5.out.free
          by_cases hy0 : y = 0
          · subst hy0
            have HI5s : Hid (WI B r (q + 213 + 84 * (8 - (g + 1)) + 6 + 70 + 1 + 1) w (w5.setCell ⟨G, 1, none⟩ (.string ⟨#[]⟩)) (.slice a1 L.length c1) L) := HI5.out.set HX5.out hw4 hvG 1 _
            have HX5s : Hid (Bx 112 (w5.setCell ⟨G, 1, none⟩ (.string ⟨#[]⟩)) G #[.string s, .string ⟨#[]⟩, .string ⟨#[]⟩, .int .i64 z]) := HX5.out.set 1 _
            go_wp2_with fail
            refine (addr_small B r _ _ HI5s.out.rd (by omega)).mono ?_
            rintro e w6 ⟨ld, rfl, _, hr6, hg6, _, hld⟩
            have HI6 : Hid (WI B r (q + 213 + 84 * (8 - (g + 1)) + 6 + 70 + 1 + 1 + 6) w w6 (.slice a1 L.length c1) L) := HI5s.out.step hg6 hr6
            have HX6 : Hid (Bx 112 w6 G #[.string s, .string ⟨#[]⟩, .string ⟨#[]⟩, .int .i64 z]) := HX5s.out.grown hg6 (hneZ G hw4)
            clear hr6 hg6 HI5s HX5s d0 d1 d2 d3 fz HI5 HX5
            have d0 := HX6.out.cell 0 rfl
            have d1 := HX6.out.cell 1 rfl
            have d2 := HX6.out.cell 2 rfl
            have d3 := HX6.out.cell 3 rfl
            have fz := HX6.out.free
            have HI7 : Hid (WI B r (q + 213 + 84 * (8 - (g + 1)) + 6 + 70 + 1 + 1 + 6) w (w6.setCell ⟨G, 2, none⟩ (.string ld)) (.slice a1 L.length c1) L) := HI6.out.set HX6.out hw4 hvG 2 _
            have HX7 : Hid (Bx 112 (w6.setCell ⟨G, 2, none⟩ (.string ld)) G #[.string s, .string ⟨#[]⟩, .string ld, .int .i64 z]) := HX6.out.set 2 _
            have e0 := HX7.out.cell 0 rfl
            have e1 := HX7.out.cell 1 rfl
            have e2 := HX7.out.cell 2 rfl
            have e3 := HX7.out.cell 3 rfl
            go_wp2_with fail
            refine (Wd.specAt_any a1 c1 L s _ (OwnsR.rowsOf HI7.out.1)).mono ?_
            rintro e w7 ⟨rfl, hb7⟩
            have HI7b : Hid (WI B r (q + 213 + 84 * (8 - (g + 1)) + 6 + 70 + 1 + 1 + 6) w w7 (.slice a1 L.length c1) L) := HI7.out.below hb7
            have HX7b : Hid (Bx 112 w7 G #[.string s, .string ⟨#[]⟩, .string ld, .int .i64 z]) := HX7.out.keep (fun k hk => hb7.block k hk)
            have hsm := HSM.out s
            generalize Wd.atP L s = pa at *
            clear hb7
            have HI9 : Hid (WI B r (q + 213 + 84 * (8 - (g + 1)) + 6 + 70 + 1 + 1 + 6) w (w7.alloc (.cells #[.string pa.addr, .string pa.text, .string pa.lead, .int .i64 pa.fails] 112)) (.slice a1 L.length c1) L) := HI7b.out.alloc _
            have HX9 : Hid (Bx 112 (w7.alloc (.cells #[.string pa.addr, .string pa.text, .string pa.lead, .int .i64 pa.fails] 112)) G #[.string s, .string ⟨#[]⟩, .string ld, .int .i64 z]) := HX7b.out.alloc _
            have g0 := HX9.out.cell 0 rfl
            have g1 := HX9.out.cell 1 rfl
            have g2 := HX9.out.cell 2 rfl
            have g3 := HX9.out.cell 3 rfl
            cases hfd : (L.find? (sameA s)).isSome with
            | true =>
              have h1 : 1 ≤ L.length := hsm hfd
              go_wp2
              go_roundg g
              case rel => exact ⟨L, by first | rfl | go_num, by first | omega | (simp; omega), by omega, Or.inr (h1), HL, HI9.out.mono (by omega)⟩
              case measure => omega
            | false =>
              obtain ⟨p9, hp9⟩ : ∃ p9 : Pg, p9 = ⟨s, ⟨#[]⟩, ld, z⟩ := ⟨_, rfl⟩
              have HE9 : Hid (FPg.enc p9 = [.string s, .string ⟨#[]⟩, .string ld, .int .i64 z]) := by rw [hp9]; rfl
              have HB9 : Hid (PgBd p9) := by rw [hp9]; exact ⟨by show s.size ≤ 100; omega, by show (0 : Nat) ≤ 300; omega, by show ld.size ≤ 100; omega, hz0', by show z ≤ 10; omega, NrT.nw_empty⟩
              clear hp9
              have d0 := HX9.out.cell 0 rfl
              have d1 := HX9.out.cell 1 rfl
              have d2 := HX9.out.cell 2 rfl
              have d3 := HX9.out.cell 3 rfl
              have HS9 : Hid ((w7.alloc (.cells #[.string pa.addr, .string pa.text, .string pa.lead, .int .i64 pa.fails] 112)).heap.size = w7.heap.size + 1) := by show _ = _; simp
              go_wp2_with (at_builtin; refine wpList_append_own _ rfl _ _ 43 rfl w.heap.size 112 i0 (.agg #[.string ⟨#[]⟩, .string ⟨#[]⟩, .string ⟨#[]⟩, .int .i64 0]) 4 56 Tryz.underlying43 hi hz0 hz1 hz2 rfl (by decide) _ _ _ rfl (HI9.out.alloc _).1 ⟨w7.heap.size + 1, 0, none⟩ 1 1 (FPg.enc p9) rfl rfl (HE9.out ▸ cell_four_newE HS9.out _ _ _ _ _) (FPg.one p9) ?c3 ?c4 ?c5 ?_)
              case c3 => unfold maxLen; omega
              case c4 => omega
              case c5 => have := HI9.out.2.2.2.1; simp at this ⊢; omega
              intro v8 w8 hown8 hgrow8 _
              have HI8 : Hid (WI B r (q + 213 + 84 * (8 - (g + 1)) + 6 + 70 + 1 + 1 + 6) w w8 v8 (L ++ [p9])) := (HI9.out.alloc _).more hown8 hgrow8
              have HL8 : Hid (PgsBd (L ++ [p9])) := PgsBd.snoc HL.out HB9.out
              clear hown8 hgrow8
              go_wp2
              go_roundg g
              case rel => exact ⟨L ++ [p9], by first | rfl | go_num, by first | omega | (simp; omega), by omega, Or.inr (by simp), HL8, HI8.out.mono (by omega)⟩
              case measure => omega
          · have hy1 : ((y : Int) == 0) = false := by simp; omega
            go_wp2_with fail
            refine (Wd.specAt_any a1 c1 L s _ (OwnsR.rowsOf HI5.out.1)).mono ?_
            rintro e w7 ⟨rfl, hb7⟩
            have HI7b : Hid (WI B r (q + 213 + 84 * (8 - (g + 1)) + 6 + 70 + 1 + 1) w w7 (.slice a1 L.length c1) L) := HI5.out.below hb7
            have HX7b : Hid (Bx 112 w7 G #[.string s, .string t, .string ⟨#[]⟩, .int .i64 z]) := HX5.out.keep (fun k hk => hb7.block k hk)
            have hsm := HSM.out s
            generalize Wd.atP L s = pa at *
            clear hb7
            have HI9 : Hid (WI B r (q + 213 + 84 * (8 - (g + 1)) + 6 + 70 + 1 + 1) w (w7.alloc (.cells #[.string pa.addr, .string pa.text, .string pa.lead, .int .i64 pa.fails] 112)) (.slice a1 L.length c1) L) := HI7b.out.alloc _
            have HX9 : Hid (Bx 112 (w7.alloc (.cells #[.string pa.addr, .string pa.text, .string pa.lead, .int .i64 pa.fails] 112)) G #[.string s, .string t, .string ⟨#[]⟩, .int .i64 z]) := HX7b.out.alloc _
            have g0 := HX9.out.cell 0 rfl
            have g1 := HX9.out.cell 1 rfl
            have g2 := HX9.out.cell 2 rfl
            have g3 := HX9.out.cell 3 rfl
            cases hfd : (L.find? (sameA s)).isSome with
            | true =>
              have h1 : 1 ≤ L.length := hsm hfd
              go_wp2
              go_roundg g
              case rel => exact ⟨L, by first | rfl | go_num, by first | omega | (simp; omega), by omega, Or.inr (h1), HL, HI9.out.mono (by omega)⟩
              case measure => omega
            | false =>
              have ht3 : decide ((t.size : Int) ≤ 300) = true := decide_eq_true (by omega)
              obtain ⟨p9, hp9⟩ : ∃ p9 : Pg, p9 = ⟨s, t, ⟨#[]⟩, z⟩ := ⟨_, rfl⟩
              have HE9 : Hid (FPg.enc p9 = [.string s, .string t, .string ⟨#[]⟩, .int .i64 z]) := by rw [hp9]; rfl
              have HB9 : Hid (PgBd p9) := by rw [hp9]; exact ⟨by show s.size ≤ 100; omega, ht, by show (0 : Nat) ≤ 100; omega, hz0', by show z ≤ 10; omega, HPW.out⟩
              clear hp9
              have d0 := HX9.out.cell 0 rfl
              have d1 := HX9.out.cell 1 rfl
              have d2 := HX9.out.cell 2 rfl
              have d3 := HX9.out.cell 3 rfl
              have HS9 : Hid ((w7.alloc (.cells #[.string pa.addr, .string pa.text, .string pa.lead, .int .i64 pa.fails] 112)).heap.size = w7.heap.size + 1) := by show _ = _; simp
              go_wp2_with (at_builtin; refine wpList_append_own _ rfl _ _ 43 rfl w.heap.size 112 i0 (.agg #[.string ⟨#[]⟩, .string ⟨#[]⟩, .string ⟨#[]⟩, .int .i64 0]) 4 56 Tryz.underlying43 hi hz0 hz1 hz2 rfl (by decide) _ _ _ rfl (HI9.out.alloc _).1 ⟨w7.heap.size + 1, 0, none⟩ 1 1 (FPg.enc p9) rfl rfl (HE9.out ▸ cell_four_newE HS9.out _ _ _ _ _) (FPg.one p9) ?c3 ?c4 ?c5 ?_)
              case c3 => unfold maxLen; omega
              case c4 => omega
              case c5 => have := HI9.out.2.2.2.1; simp at this ⊢; omega
              intro v8 w8 hown8 hgrow8 _
              have HI8 : Hid (WI B r (q + 213 + 84 * (8 - (g + 1)) + 6 + 70 + 1 + 1) w w8 v8 (L ++ [p9])) := (HI9.out.alloc _).more hown8 hgrow8
              have HL8 : Hid (PgsBd (L ++ [p9])) := PgsBd.snoc HL.out HB9.out
              clear hown8 hgrow8
              go_wp2
              go_roundg g
              case rel => exact ⟨L ++ [p9], by first | rfl | go_num, by first | omega | (simp; omega), by omega, Or.inr (by simp), HL8, HI8.out.mono (by omega)⟩
              case measure => omega
end Go.Proofs.YtiennniclkbjlaaGreatDoor.Dr
/- Worlds are drawn, some spoilt, and where one looks in them. -/
namespace Go.Proofs.YtiennniclkbjlaaGreatDoor.Dr
open Go.RowKit Go.Proofs.YtiennniclkbjlaaGreatDoor.EscM Go.Proofs.YtiennniclkbjlaaGreatDoor.St Go.Proofs.YtiennniclkbjlaaGreatDoor.AddrM Go.Proofs.YtiennniclkbjlaaGreatDoor.EscL Go.Proofs.YtiennniclkbjlaaGreatDoor.Ad1 Go.Proofs.YtiennniclkbjlaaGreatDoor.RR Go.Proofs.YtiennniclkbjlaaGreatDoor.LetM Go.Proofs.YtiennniclkbjlaaGreatDoor.Nm Go.Proofs.YtiennniclkbjlaaGreatDoor.GrM Go.Proofs.YtiennniclkbjlaaGreatDoor.NtM Go.Proofs.YtiennniclkbjlaaGreatDoor.Nt Go.Proofs.YtiennniclkbjlaaGreatDoor.RoPg Go.Proofs.YtiennniclkbjlaaGreatDoor.WdM

theorem own_setP {w : World} {base k n g cap j : Nat} {t : TypeId} {y : Value} {xs : List Value} (h : w.ownsRow base t k (.slice (some ⟨g, 0, none⟩) n cap) n xs) : (w.setCell ⟨g, j, none⟩ y).ownsRow base t k (.slice (some ⟨g, 0, none⟩) n cap) n (xs.set j y) := by
  obtain ⟨h1, ⟨hv, _⟩ | ⟨g', cap', cur, hv, hb, hh, h3, h4, h5, h6⟩⟩ := h
  · injection hv with e; cases e
  · injection hv with e1 _ e3
    injection e1 with e1
    injection e1 with e1
    subst e1; subst e3
    refine ⟨by simp [h1], Or.inr ⟨g, cap, cur.setIfInBounds j y, rfl, hb, Bx.set (t := t) hh j y, h3, h4, by simp [h5], ?_⟩⟩
    rw [Array.toList_setIfInBounds, List.take_set, h6]
theorem own_atP {w : World} {base k n : Nat} {t : TypeId} {v : Value} {xs : List Value} (h : w.ownsRow base t k v n xs) (hn : 0 < n) : ∃ g cap, v = .slice (some ⟨g, 0, none⟩) n cap ∧ base ≤ g ∧ n ≤ cap ∧ cap ≤ maxLen ∧ ∃ C, Bx t w g C := by
  obtain ⟨_, ⟨_, h0⟩ | ⟨g, cap, cur, hv, hb, hh, h3, h4, _⟩⟩ := h
  · omega
  · exact ⟨g, cap, hv, hb, h3, h4, cur, hh⟩
/-- a field of the first page is set -/
theorem WI.put {B r q : Nat} {w w1 : World} {g n cap : Nat} {p p' : Pg} {R : List Pg} (h : WI B r q w w1 (.slice (some ⟨g, 0, none⟩) n cap) (p :: R)) (hn : n = R.length + 1) (j : Nat) (y : Value) (he : (FPg.cells (p :: R)).set j y = FPg.cells (p' :: R)) : WI B r q w (w1.setCell ⟨g, j, none⟩ y) (.slice (some ⟨g, 0, none⟩) n cap) (p' :: R) := by
  obtain ⟨h1, h3, h4, h5, h6⟩ := h
  subst hn
  have hb : w.heap.size ≤ g := OwnsR.block h1 g rfl
  have hg : w1.grownBy (w1.setCell ⟨g, j, none⟩ y) (some g) := grown_set j y
  have h1' : (w1.setCell ⟨g, j, none⟩ y).ownsRow w.heap.size 112 FPg.k (.slice (some ⟨g, 0, none⟩) (R.length + 1) cap) (R.length + 1) ((FPg.cells (p :: R)).set j y) := own_setP h1
  rw [he] at h1'
  exact ⟨h1', h3.grownRow (base := w.heap.size) hg h6 (fun k hk => by have := Option.some.inj hk; omega), grown_past h4 hg (fun k hk => by have := Option.some.inj hk; omega), by have := hg.size; omega, h6⟩
theorem PgsBd.head {p p' : Pg} {R : List Pg} (h : PgsBd (p :: R)) (hp : PgBd p → PgBd p') : PgsBd (p' :: R) := by
  intro x hx
  rcases List.mem_cons.1 hx with rfl | hx
  · exact hp (h p (List.mem_cons_self ..))
  · exact h x (List.mem_cons_of_mem _ hx)

set_option maxRecDepth 100000 in
set_option maxHeartbeats 8000000 in
theorem off_any (B r q : Nat) (w : World) (h : IsRd B w r q) (hq : q ≤ 6000) :
    Calls Tryz.prog 43 #[.pointer (some ⟨r, 0, none⟩)] w fun e w' => ∃ (L : List Pg) (a1 : Option Addr) (c1 : Nat), e = .returned (.slice a1 L.length c1) ∧ WI B r (q + 910) w w' (.slice a1 L.length c1) L ∧ L.length ≤ 24 ∧ 1 ≤ L.length ∧ PgsBd L := by
  obtain ⟨i0, hi, hz0, hz1, hz2⟩ := info_page
  have hle := h.le
  have HR0 : Hid (IsRd B w r q) := h
  clear h
  go_enter Tryz.func43, Tryz.ntmps43
  go_wp2_with fail
  refine (world_any B r q _ HR0.out hq).mono ?_
  rintro e w1 ⟨L, a1, c1, rfl, hI, hl, hl1, hL⟩
  have HI1 : Hid (WI B r (q + 900) w w1 (.slice a1 L.length c1) L) := hI
  have HL : Hid (PgsBd L) := hL
  clear hI hL
  go_wp2_with fail
  refine (pick_any B r _ 16 _ HI1.out.rd (by omega) (by omega) (by omega)).mono ?_
  rintro e w2 ⟨x, rfl, hx, hr2, hg2⟩
  have HI2 : Hid (WI B r (q + 901) w w2 (.slice a1 L.length c1) L) := HI1.out.step hg2 hr2
  clear hr2 hg2 HI1
  by_cases hx0 : 0 < x
  · have hxd : decide ((0 : Int) < (x : Int)) = true := decide_eq_true (by omega)
    go_wp2
    go_ret
    exact ⟨L, a1, c1, rfl, HI2.out.mono (by omega), by omega, hl1, HL.out⟩
  have hxd : decide ((0 : Int) < (x : Int)) = false := decide_eq_false (by omega)
  have hx00 : x = 0 := by omega
  subst hx00
  go_wp2_with fail
  refine (pick_any B r _ 5 _ HI2.out.rd (by omega) (by omega) (by omega)).mono ?_
  rintro e w3 ⟨y, rfl, hy, hr3, hg3⟩
  have HI3 : Hid (WI B r (q + 902) w w3 (.slice a1 L.length c1) L) := HI2.out.step hg3 hr3
  clear hr3 hg3 HI2 hxd hx
  have hneZ : ∀ G, w.heap.size < G → some r ≠ some G := fun G hG e => by have := Option.some.inj e; omega
  obtain ⟨p, R, hpR⟩ : ∃ p R, L = p :: R := by
    cases L with
    | nil => simp at hl1
    | cons p R => exact ⟨p, R, rfl⟩
  obtain ⟨g, cap, hv, hgb, hnc, hcm, C, hC⟩ := own_atP HI3.out.1 (by omega)
  injection hv with e1 _ e3
  have e3' := e3.symm
  subst e1; subst e3'
  have hfz : ∀ j, w3.frozen? ⟨g, j, none⟩ = false := hC.free
  have hrows := OwnsR.rowsOf HI3.out.1
  obtain ⟨b', off', ea, k0, k1, k2, k3⟩ := pg_at hrows (i := 0) (by omega)
  injection ea with ea
  injection ea with ea1 ea2
  subst ea1; subst ea2
  have hL0 : L[0] = p := by subst hpR; rfl
  rw [hL0] at k0 k1 k2 k3
  have c0 : w3.cell? ⟨g, 0, none⟩ = some (.string p.addr) := by simpa using k0
  have c1 : w3.cell? ⟨g, 1, none⟩ = some (.string p.text) := by simpa using k1
  have c2 : w3.cell? ⟨g, 2, none⟩ = some (.string p.lead) := by simpa using k2
  have c3 : w3.cell? ⟨g, 3, none⟩ = some (.int .i64 p.fails) := by simpa using k3
  have hln : (0 : Int) < (L.length : Int) := by omega
  have HLR : Hid (L = p :: R) := hpR
  have HLN : Hid (L.length = R.length + 1) := by show _ = _; rw [hpR]; rfl
  have HBp : Hid (PgBd p) := HL.out p (by rw [hpR]; exact List.mem_cons_self ..)
  clear k0 k1 k2 k3 hrows hL0 hC hpR
  by_cases h0 : y = 0
  · subst h0
    obtain ⟨p9, hp9⟩ : ∃ p9 : Pg, p9 = p := ⟨_, rfl⟩
    have HE9 : Hid (FPg.enc p9 = [.string p.addr, .string p.text, .string p.lead, .int .i64 p.fails]) := by rw [hp9]; rfl
    have HB9 : Hid (PgBd p9) := by rw [hp9]; exact HBp.out
    clear hp9
    go_wp2_with (at_builtin; go_must (refine wpList_append_own _ rfl _ _ 43 rfl w.heap.size 112 i0 (.agg #[.string ⟨#[]⟩, .string ⟨#[]⟩, .string ⟨#[]⟩, .int .i64 0]) 4 56 Tryz.underlying43 hi hz0 hz1 hz2 rfl (by decide) _ _ _ rfl (HI3.out.alloc _).1 ⟨w3.heap.size, 0, none⟩ 1 1 (FPg.enc p9) rfl rfl (HE9.out ▸ cell_four_new _ _ _ _ _ _) (FPg.one p9) ?c3 ?c4 ?c5 ?_))
    case c3 => unfold maxLen; omega
    case c4 => omega
    case c5 => have := HI3.out.2.2.2.1; simp at this ⊢; omega
    intro v8 w8 hown8 hgrow8 _
    have HI8 : Hid (WI B r (q + 902) w w8 v8 (L ++ [p9])) := (HI3.out.alloc _).more hown8 hgrow8
    have HL8 : Hid (PgsBd (L ++ [p9])) := PgsBd.snoc HL.out HB9.out
    clear hown8 hgrow8
    obtain ⟨a8, c8, hv8, _⟩ := OwnsR.rows HI8.out.1
    subst hv8
    go_wp2
    go_ret
    exact ⟨L ++ [p9], a8, c8, rfl, HI8.out.mono (by omega), by simp; omega, by simp, HL8.out⟩
  have n0 : ((y : Int) == 0) = false := by simp; omega
  by_cases h1 : y = 1
  · subst h1
    have HI4 : Hid (WI B r (q + 902) w (w3.setCell ⟨g, 3, none⟩ (.int .i64 10)) (.slice (some ⟨g, 0, none⟩) L.length cap) (⟨p.addr, p.text, p.lead, 10⟩ :: R)) := WI.put (p := p) (by rw [← HLR.out]; exact HI3.out) HLN.out 3 _ rfl
    have HL4 : Hid (PgsBd (⟨p.addr, p.text, p.lead, 10⟩ :: R)) := PgsBd.head (p := p) (by rw [← HLR.out]; exact HL.out) (fun hb => ⟨hb.1, hb.2.1, hb.2.2.1, by show (0 : Int) ≤ 10; omega, by show (10 : Int) ≤ 10; omega, hb.2.2.2.2.2⟩)
    go_wp2
    go_ret
    exact ⟨⟨p.addr, p.text, p.lead, 10⟩ :: R, some ⟨g, 0, none⟩, cap, by rw [HLN.out]; rfl, by have h4 := HI4.out.mono (show q + 902 ≤ q + 910 by omega); rw [HLN.out] at h4; exact h4, by simp; have := HLN.out; omega, by simp, HL4.out⟩
  have n1 : ((y : Int) == 1) = false := by simp; omega
  by_cases h2 : y = 2
  · subst h2
    go_wp2_with fail
    refine (of_new B r (q + 902) 3 _ (fun s => decide (s.size ≤ 6)) w3 HI3.out.rd (by omega) (by decide) (by decide) (by decide) (by decide)).mono ?_
    rintro e w4 ⟨s, rfl, hs, hr4, hg4⟩
    have hs6 : s.size ≤ 6 := of_decide_eq_true hs
    have HI3b : Hid (WI B r (q + 902 + 1) w w4 (.slice (some ⟨g, 0, none⟩) L.length cap) L) := HI3.out.step hg4 hr4
    have hgw : g < w3.heap.size := cell_block c0
    have hgr : r ≠ g := by omega
    have hsm : ∀ (j : Nat) (v : Value), w3.cell? ⟨g, j, none⟩ = some v → w4.cell? ⟨g, j, none⟩ = some v := fun j v hc => (World.cell?_of_block (hg4.block g hgw (fun e => hgr (Option.some.inj e).symm))).trans hc
    have e0 := hsm 0 _ c0
    have e1 := hsm 1 _ c1
    have e2 := hsm 2 _ c2
    have e3 := hsm 3 _ c3
    obtain ⟨g', cap', hv', _, _, _, C', hC'⟩ := own_atP HI3b.out.1 (by omega)
    injection hv' with hv1 _ hv3
    injection hv1 with hv1
    injection hv1 with hv1

    subst hv1; subst hv3
    have hfz4 : ∀ j, w4.frozen? ⟨g, j, none⟩ = false := hC'.free
    clear hsm hs hr4 hg4 hC' hfz c0 c1 c2 c3
    have HI4 : Hid (WI B r (q + 902 + 1) w (w4.setCell ⟨g, 0, none⟩ (.string s)) (.slice (some ⟨g, 0, none⟩) L.length cap) (⟨s, p.text, p.lead, p.fails⟩ :: R)) := WI.put (p := p) (by rw [← HLR.out]; exact HI3b.out) HLN.out 0 _ rfl
    have HL4 : Hid (PgsBd (⟨s, p.text, p.lead, p.fails⟩ :: R)) := PgsBd.head (p := p) (by rw [← HLR.out]; exact HL.out) (fun hb => ⟨by show s.size ≤ 100; omega, hb.2.1, hb.2.2.1, hb.2.2.2⟩)
    go_wp2
    go_ret
    exact ⟨⟨s, p.text, p.lead, p.fails⟩ :: R, some ⟨g, 0, none⟩, cap, by rw [HLN.out]; rfl, by have h4 := HI4.out.mono (show q + 902 + 1 ≤ q + 910 by omega); rw [HLN.out] at h4; exact h4, by simp; have := HLN.out; omega, by simp, HL4.out⟩
  have n2 : ((y : Int) == 2) = false := by simp; omega
  by_cases h3 : y = 3
  · subst h3
    have HI4 : Hid (WI B r (q + 902) w (w3.setCell ⟨g, 2, none⟩ (.string ⟨#[120]⟩)) (.slice (some ⟨g, 0, none⟩) L.length cap) (⟨p.addr, p.text, ⟨#[120]⟩, p.fails⟩ :: R)) := WI.put (p := p) (by rw [← HLR.out]; exact HI3.out) HLN.out 2 _ rfl
    have HL4 : Hid (PgsBd (⟨p.addr, p.text, ⟨#[120]⟩, p.fails⟩ :: R)) := PgsBd.head (p := p) (by rw [← HLR.out]; exact HL.out) (fun hb => ⟨hb.1, hb.2.1, by show (1 : Nat) ≤ 100; omega, hb.2.2.2⟩)
    go_wp2
    go_ret
    exact ⟨⟨p.addr, p.text, ⟨#[120]⟩, p.fails⟩ :: R, some ⟨g, 0, none⟩, cap, by rw [HLN.out]; rfl, by have h4 := HI4.out.mono (show q + 902 ≤ q + 910 by omega); rw [HLN.out] at h4; exact h4, by simp; have := HLN.out; omega, by simp, HL4.out⟩
  · have n3 : ((y : Int) == 3) = false := by simp; omega
    clear c0 c1 c2 c3 hfz HLR HLN HBp
    go_wp2
    go_loopg [3, 4] 12 (fun m v i wr => ∃ (L : List Pg) (k : Nat), k + m = 12 ∧ i = .int .i64 (k : Int) ∧ L.length ≤ 12 + k ∧ 1 ≤ L.length ∧ Hid (PgsBd L) ∧ Hid (WI B r (q + 902) w wr v L))
    case atStart => exact ⟨L, 0, rfl, rfl, by omega, hl1, HL, HI3⟩
    case round =>
      clear HL HI3
      obtain ⟨L, k, hkm, rfl, hlk, hl1, HL, HI⟩ := hrel
      rcases gk with _ | m
      · obtain ⟨a8, c8, hv8, _⟩ := OwnsR.rows HI.out.1
        subst hv8
        have ek : k = 12 := by omega
        subst ek
        go_wp2
        go_ret
        exact ⟨L, a8, c8, rfl, HI.out.mono (by omega), by omega, hl1, HL.out⟩
      · have hk12 : k < 12 := by omega
        go_wp2_with fail
        refine (specDec_any k _ (by omega)).mono ?_
        rintro e w4 ⟨rfl, hb4⟩
        have HI4 : Hid (WI B r (q + 902) w w4 u3 L) := HI.out.below hb4
        have hdl := dec_len k
        obtain ⟨ds, hds⟩ : ∃ ds : ByteArray, ds = ⟨(decL k).toArray⟩ := ⟨_, rfl⟩
        have hdz : ds.size ≤ 2 := by rw [hds]; show (decL k).toArray.size ≤ 2; simp; omega
        rw [← hds]
        clear hds hb4 HI
        obtain ⟨p9, hp9⟩ : ∃ p9 : Pg, p9 = ⟨(⟨#[47, 47, 97, 98, 47, 122]⟩ : ByteArray) ++ ds, ⟨#[]⟩, ⟨#[]⟩, 0⟩ := ⟨_, rfl⟩
        have HE9 : Hid (FPg.enc p9 = [.string ((⟨#[47, 47, 97, 98, 47, 122]⟩ : ByteArray) ++ ds), .string ⟨#[]⟩, .string ⟨#[]⟩, .int .i64 0]) := by rw [hp9]; rfl
        have HB9 : Hid (PgBd p9) := by
          rw [hp9]
          refine ⟨?_, by show (0 : Nat) ≤ 300; omega, by show (0 : Nat) ≤ 100; omega, by show (0 : Int) ≤ 0; omega, by show (0 : Int) ≤ 10; omega, NrT.nw_empty⟩
          show ((⟨#[47, 47, 97, 98, 47, 122]⟩ : ByteArray) ++ ds).size ≤ 100
          rw [ByteArray.size_append]
          have : (⟨#[47, 47, 97, 98, 47, 122]⟩ : ByteArray).size = 6 := rfl
          omega
        clear hp9
        go_wp2_with (at_builtin; go_must (refine wpList_append_own _ rfl _ _ 43 rfl w.heap.size 112 i0 (.agg #[.string ⟨#[]⟩, .string ⟨#[]⟩, .string ⟨#[]⟩, .int .i64 0]) 4 56 Tryz.underlying43 hi hz0 hz1 hz2 rfl (by decide) _ _ _ rfl (HI4.out.alloc _).1 ⟨w4.heap.size, 0, none⟩ 1 1 (FPg.enc p9) rfl rfl (HE9.out ▸ cell_four_new _ _ _ _ _ _) (FPg.one p9) ?c3 ?c4 ?c5 ?_))
        case c3 => unfold maxLen; omega
        case c4 => omega
        case c5 => have := HI4.out.2.2.2.1; simp at this ⊢; omega
        intro v8 w8 hown8 hgrow8 _
        have HI8 : Hid (WI B r (q + 902) w w8 v8 (L ++ [p9])) := (HI4.out.alloc _).more hown8 hgrow8
        have HL8 : Hid (PgsBd (L ++ [p9])) := PgsBd.snoc HL.out HB9.out
        clear hown8 hgrow8
        go_wp2
        go_roundg m
        case measure => omega
        case rel => exact ⟨L ++ [p9], k + 1, by omega, by go_num, by simp; omega, by simp, HL8, HI8⟩
end Go.Proofs.YtiennniclkbjlaaGreatDoor.Dr
/- Where one looks in a drawn world; what FnWorldGet draws. -/
namespace Go.Proofs.YtiennniclkbjlaaGreatDoor.Dr
open Go.RowKit Go.Proofs.YtiennniclkbjlaaGreatDoor.EscM Go.Proofs.YtiennniclkbjlaaGreatDoor.St Go.Proofs.YtiennniclkbjlaaGreatDoor.AddrM Go.Proofs.YtiennniclkbjlaaGreatDoor.EscL Go.Proofs.YtiennniclkbjlaaGreatDoor.Ad1 Go.Proofs.YtiennniclkbjlaaGreatDoor.RR Go.Proofs.YtiennniclkbjlaaGreatDoor.RoPg Go.Proofs.YtiennniclkbjlaaGreatDoor.WdM

set_option maxRecDepth 100000 in
set_option maxHeartbeats 4000000 in
theorem where_any (B r q : Nat) (L : List Pg) (a1 : Option Addr) (c1 : Nat) (w0 w : World) (h : WI B r q w0 w (.slice a1 L.length c1) L) (hL : PgsBd L) (hl : L.length ≤ 100) (hq : q ≤ 9000) :
    Calls Tryz.prog 55 #[.pointer (some ⟨r, 0, none⟩), .slice a1 L.length c1] w fun e w' => ∃ s, e = .returned (.string s) ∧ s.size ≤ 100 ∧ WI B r (q + 8) w0 w' (.slice a1 L.length c1) L ∧ w.grownBy w' (some r) := by
  have HI : Hid (WI B r q w0 w (.slice a1 L.length c1) L) := h
  have HL : Hid (PgsBd L) := hL
  clear h hL
  by_cases h0 : L.length = 0
  · have hd : decide ((0 : Int) < (L.length : Int)) = false := decide_eq_false (by omega)
    go_enter Tryz.func55, Tryz.ntmps55
    go_wp2_with fail
    refine (addr_small B r q _ HI.out.rd (by omega)).mono ?_
    rintro e w1 ⟨s, rfl, _, hr1, hg1, _, hs⟩
    have HI1 : Hid (WI B r (q + 6) w0 w1 (.slice a1 L.length c1) L) := HI.out.step hg1 hr1
    have HG1 : Hid (w.grownBy w1 (some r)) := hg1
    clear hr1 hg1
    go_wp2
    go_ret
    exact ⟨s, rfl, by omega, HI1.out.mono (by omega), HG1.out⟩
  · have hd : decide ((0 : Int) < (L.length : Int)) = true := decide_eq_true (by omega)
    go_enter Tryz.func55, Tryz.ntmps55
    go_wp2_with fail
    refine (pick_any B r q 3 _ HI.out.rd (by omega) (by omega) (by omega)).mono ?_
    rintro e w1 ⟨x, rfl, hx, hr1, hg1⟩
    have HI1 : Hid (WI B r (q + 1) w0 w1 (.slice a1 L.length c1) L) := HI.out.step hg1 hr1
    have HG1 : Hid (w.grownBy w1 (some r)) := hg1
    clear hr1 hg1
    by_cases hx0 : 0 < x
    · have hxd : decide ((0 : Int) < (x : Int)) = true := decide_eq_true (by omega)
      go_wp2_with fail
      refine (pick_any B r _ (L.length : Int) _ HI1.out.rd (by omega) (by omega) (by omega)).mono ?_
      rintro e w2 ⟨y, rfl, hy, hr2, hg2⟩
      have HI2 : Hid (WI B r (q + 1 + 1) w0 w2 (.slice a1 L.length c1) L) := HI1.out.step hg2 hr2
      have HG2 : Hid (w.grownBy w2 (some r)) := grown_trans HG1.out hg2
      clear hr2 hg2
      have hyl : y < L.length := by omega
      have hsz := HL.out L[y] (List.getElem_mem _)
      obtain ⟨b, off, e1, k0, _, _, _⟩ := pg_at (OwnsR.rowsOf HI2.out.1) hyl
      have hs := hsz.1
      generalize L[y].addr = s at *
      subst e1
      clear hsz
      go_wp2
      go_ret
      exact ⟨s, rfl, hs, HI2.out.mono (by omega), HG2.out⟩
    · have hxd : decide ((0 : Int) < (x : Int)) = false := decide_eq_false (by omega)
      go_wp2_with fail
      refine (addr_small B r _ _ HI1.out.rd (by omega)).mono ?_
      rintro e w2 ⟨s, rfl, _, hr2, hg2, _, hs⟩
      have HI2 : Hid (WI B r (q + 1 + 6) w0 w2 (.slice a1 L.length c1) L) := HI1.out.step hg2 hr2
      have HG2 : Hid (w.grownBy w2 (some r)) := grown_trans HG1.out hg2
      clear hr2 hg2
      go_wp2
      go_ret
      exact ⟨s, rfl, by omega, HI2.out.mono (by omega), HG2.out⟩
end Go.Proofs.YtiennniclkbjlaaGreatDoor.Dr
/- What FnWorldNotice and FnWorldLets draw. -/
namespace Go.Proofs.YtiennniclkbjlaaGreatDoor.Dr
open Go.RowKit Go.Proofs.YtiennniclkbjlaaGreatDoor.EscM Go.Proofs.YtiennniclkbjlaaGreatDoor.St Go.Proofs.YtiennniclkbjlaaGreatDoor.AddrM Go.Proofs.YtiennniclkbjlaaGreatDoor.EscL Go.Proofs.YtiennniclkbjlaaGreatDoor.Ad1 Go.Proofs.YtiennniclkbjlaaGreatDoor.RR Go.Proofs.YtiennniclkbjlaaGreatDoor.LetM Go.Proofs.YtiennniclkbjlaaGreatDoor.Nm Go.Proofs.YtiennniclkbjlaaGreatDoor.GrM Go.Proofs.YtiennniclkbjlaaGreatDoor.RoPg Go.Proofs.YtiennniclkbjlaaGreatDoor.WdM

end Go.Proofs.YtiennniclkbjlaaGreatDoor.Dr
