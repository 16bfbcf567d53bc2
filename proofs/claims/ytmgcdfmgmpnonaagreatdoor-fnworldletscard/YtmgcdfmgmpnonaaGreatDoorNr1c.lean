/- A line of a notice is read, of the model: what is left. -/
import Derived.Test.YtmgcdfmgmpnonaaGreatDoorNr1b
namespace Go.Proofs.YtmgcdfmgmpnonaaGreatDoor.NrS
open Go.RowKit Go.Proofs.YtmgcdfmgmpnonaaGreatDoor.EscM Go.Proofs.YtmgcdfmgmpnonaaGreatDoor.EscL Go.Proofs.YtmgcdfmgmpnonaaGreatDoor.RuleM Go.Proofs.YtmgcdfmgmpnonaaGreatDoor.Ru1 Go.Proofs.YtmgcdfmgmpnonaaGreatDoor.ReadM Go.Proofs.YtmgcdfmgmpnonaaGreatDoor.St Go.Proofs.YtmgcdfmgmpnonaaGreatDoor.RR Go.Proofs.YtmgcdfmgmpnonaaGreatDoor.LetM Go.Proofs.YtmgcdfmgmpnonaaGreatDoor.Nm Go.Proofs.YtmgcdfmgmpnonaaGreatDoor.GrM Go.Proofs.YtmgcdfmgmpnonaaGreatDoor.Dr Go.Proofs.YtmgcdfmgmpnonaaGreatDoor.NrM Go.Proofs.YtmgcdfmgmpnonaaGreatDoor.NrW

set_option maxRecDepth 100000 in
set_option maxHeartbeats 3200000 in
theorem skip0_call (base base2 : Nat) (v : Value) (bg : Bool) (wd rs : ByteArray) (w : World)
    (h : GsOwn w base base2 v []) (_hr : rs.size ≤ 4194304) (hcall : (wd.toList == [99, 97, 108, 108, 101, 114]) = true) (hc : callB rs = false) :
    Calls Tryz.prog 114 #[v, .string wd, .string rs, .bool bg] w fun e w' => Read base base2 w ⟨[], bg⟩ e w' := by
  obtain ⟨a0, cap, hv, _⟩ := h.at
  have hv : v = .slice a0 0 cap := hv
  subst hv
  have HG : Hid (GsOwn w base base2 (.slice a0 0 cap) []) := h
  clear h
  cases hstar : (rs.toList == [42]) with
  | true =>
    have := hc
    unfold callB at this
    rw [hstar] at this
    cases this
  | false =>
    have hnb : nameB rs = false := by
      have := hc
      unfold callB at this
      rw [hstar] at this
      exact this
    clear hc
    go_enter Tryz.func114, Tryz.ntmps114
    go_wp2_with (go_at_call 44; refine (specName_any rs _ (by unfold maxLen; omega)).mono ?_; rintro e w1 ⟨rfl, e1⟩; have e2 := e1.symm; subst e2)
    go_ret2
    exact ⟨.slice a0 0 cap, [], rfl, HG.out, rfl, Fr.refl _ _ _⟩
set_option maxRecDepth 100000 in
set_option maxHeartbeats 3200000 in
theorem skip0_other (base base2 : Nat) (v : Value) (bg : Bool) (wd rs : ByteArray) (w : World)
    (h : GsOwn w base base2 v []) (_hr : rs.size ≤ 4194304) (hcall : (wd.toList == [99, 97, 108, 108, 101, 114]) = false) :
    Calls Tryz.prog 114 #[v, .string wd, .string rs, .bool bg] w fun e w' => Read base base2 w ⟨[], bg⟩ e w' := by
  obtain ⟨a0, cap, hv, _⟩ := h.at
  have hv : v = .slice a0 0 cap := hv
  subst hv
  have HG : Hid (GsOwn w base base2 (.slice a0 0 cap) []) := h
  clear h
  go_enter Tryz.func114, Tryz.ntmps114
  go_wp2
  go_ret2
  exact ⟨.slice a0 0 cap, [], rfl, HG.out, rfl, Fr.refl _ _ _⟩
set_option maxRecDepth 100000 in
set_option maxHeartbeats 3200000 in
theorem skipM_call (base base2 n : Nat) (v : Value) (M : List Gr) (g : Gr) (bg : Bool) (wd rs : ByteArray) (w : World)
    (hn : M.length = n) (h : GsOwn w base base2 v (M ++ [g])) (hl : n ≤ 1000) (_hr : rs.size ≤ 4194304) (_hcall : (wd.toList == [99, 97, 108, 108, 101, 114]) = true) (_hlet : (wd.toList == [108, 101, 116]) = false) (_hbar : (wd.toList == [98, 97, 114]) = false) (_hwait : (wd.toList == [119, 97, 105, 116]) = false) (hc : callB rs = false) :
    Calls Tryz.prog 114 #[v, .string wd, .string rs, .bool bg] w fun e w' => Read base base2 w ⟨(M ++ [g]).map grp, bg⟩ e w' := by
  obtain ⟨b, cap, hv, hbb1, hblt, f0, c0, c1, c2⟩ := h.last
  rw [hn] at hv c0 c1 c2
  subst hv
  have HG : Hid (GsOwn w base base2 (.slice (some ⟨b, 0, none⟩) (n + 1) cap) (M ++ [g])) := h
  have hI := OwnsR.rowsOf h.1
  have hc1 : n + 1 ≤ cap := by have := hI.1; rw [List.length_append, hn] at this; exact this
  have hc2 := hI.2.1
  unfold maxLen at hc2
  have HN : Hid (M.length = n) := hn
  clear h hI hn
  have hw3 : IntKind.i64.wrap (n : Int) = (n : Int) := IntWalk.i64_in _ (by omega)
  have hn0 : (0 : Int) ≤ (n : Int) := by omega
  have hn1 : (n : Int) ≤ (cap : Int) := by omega
  have hnl : decide ((n : Int) < 0) = false := decide_eq_false (by omega)
  cases hstar : (rs.toList == [42]) with
  | true =>
    have := hc
    unfold callB at this
    rw [hstar] at this
    cases this
  | false =>
    have hnb : nameB rs = false := by
      have := hc
      unfold callB at this
      rw [hstar] at this
      exact this
    clear hc
    go_enter Tryz.func114, Tryz.ntmps114
    go_wp2_with (go_at_call 44; refine (specName_any rs _ (by unfold maxLen; omega)).mono ?_; rintro e w1 ⟨rfl, e1⟩; have e2 := e1.symm; subst e2)
    go_ret2
    exact ⟨.slice (some ⟨b, 0, none⟩) (n + 1) cap, M ++ [g], rfl, HG.out, rfl, Fr.refl _ _ _⟩
set_option maxRecDepth 100000 in
set_option maxHeartbeats 3200000 in
theorem skipM_let (base base2 n : Nat) (v : Value) (M : List Gr) (g : Gr) (bg : Bool) (wd rs : ByteArray) (w : World)
    (hn : M.length = n) (h : GsOwn w base base2 v (M ++ [g])) (hl : n ≤ 1000) (_hr : rs.size ≤ 4194304) (_hcall : (wd.toList == [99, 97, 108, 108, 101, 114]) = false) (_hlet : (wd.toList == [108, 101, 116]) = true) (_hbar : (wd.toList == [98, 97, 114]) = false) (_hwait : (wd.toList == [119, 97, 105, 116]) = false) (hc : ruleL rs.data.toList = false) :
    Calls Tryz.prog 114 #[v, .string wd, .string rs, .bool bg] w fun e w' => Read base base2 w ⟨(M ++ [g]).map grp, bg⟩ e w' := by
  obtain ⟨b, cap, hv, hbb1, hblt, f0, c0, c1, c2⟩ := h.last
  rw [hn] at hv c0 c1 c2
  subst hv
  have HG : Hid (GsOwn w base base2 (.slice (some ⟨b, 0, none⟩) (n + 1) cap) (M ++ [g])) := h
  have hI := OwnsR.rowsOf h.1
  have hc1 : n + 1 ≤ cap := by have := hI.1; rw [List.length_append, hn] at this; exact this
  have hc2 := hI.2.1
  unfold maxLen at hc2
  have HN : Hid (M.length = n) := hn
  clear h hI hn
  have hw3 : IntKind.i64.wrap (n : Int) = (n : Int) := IntWalk.i64_in _ (by omega)
  have hn0 : (0 : Int) ≤ (n : Int) := by omega
  have hn1 : (n : Int) ≤ (cap : Int) := by omega
  have hnl : decide ((n : Int) < 0) = false := decide_eq_false (by omega)
  have HRU : Hid (∀ W : World, Calls Tryz.prog 144 #[.string rs] W fun e w' => e = .returned (.bool (ruleL rs.data.toList)) ∧ w' = W) := fun W => specRule_any rs W (by unfold maxLen; omega)
  generalize ruleL rs.data.toList = R at *
  subst hc
  go_enter Tryz.func114, Tryz.ntmps114
  go_wp2_with (go_at_call 144; refine (HRU.out _).mono ?_; rintro e w1 ⟨rfl, e1⟩; have e2 := e1.symm; subst e2)
  go_ret2
  exact ⟨.slice (some ⟨b, 0, none⟩) (n + 1) cap, M ++ [g], rfl, HG.out, rfl, Fr.refl _ _ _⟩
set_option maxRecDepth 100000 in
set_option maxHeartbeats 3200000 in
theorem full_let (base base2 n : Nat) (v : Value) (M : List Gr) (g : Gr) (bg : Bool) (wd rs : ByteArray) (w : World)
    (hn : M.length = n) (h : GsOwn w base base2 v (M ++ [g])) (hl : n ≤ 1000) (_hr : rs.size ≤ 4194304) (_hcall : (wd.toList == [99, 97, 108, 108, 101, 114]) = false) (_hlet : (wd.toList == [108, 101, 116]) = true) (_hbar : (wd.toList == [98, 97, 114]) = false) (_hwait : (wd.toList == [119, 97, 105, 116]) = false) (hc : ruleL rs.data.toList = true) (h6 : 6 ≤ g.ru.length) :
    Calls Tryz.prog 114 #[v, .string wd, .string rs, .bool bg] w fun e w' => Read base base2 w ⟨(M ++ [g]).map grp, bg⟩ e w' := by
  obtain ⟨b, cap, hv, hbb1, hblt, f0, c0, c1, c2⟩ := h.last
  rw [hn] at hv c0 c1 c2
  subst hv
  have HG : Hid (GsOwn w base base2 (.slice (some ⟨b, 0, none⟩) (n + 1) cap) (M ++ [g])) := h
  have hI := OwnsR.rowsOf h.1
  have hc1 : n + 1 ≤ cap := by have := hI.1; rw [List.length_append, hn] at this; exact this
  have hc2 := hI.2.1
  unfold maxLen at hc2
  have HN : Hid (M.length = n) := hn
  clear h hI hn
  have hw3 : IntKind.i64.wrap (n : Int) = (n : Int) := IntWalk.i64_in _ (by omega)
  have hn0 : (0 : Int) ≤ (n : Int) := by omega
  have hn1 : (n : Int) ≤ (cap : Int) := by omega
  have hnl : decide ((n : Int) < 0) = false := decide_eq_false (by omega)
  have HRU : Hid (∀ W : World, Calls Tryz.prog 144 #[.string rs] W fun e w' => e = .returned (.bool (ruleL rs.data.toList)) ∧ w' = W) := fun W => specRule_any rs W (by unfold maxLen; omega)
  generalize ruleL rs.data.toList = R at *
  subst hc
  go_enter Tryz.func114, Tryz.ntmps114
  go_wp2_with (go_at_call 144; refine (HRU.out _).mono ?_; rintro e w1 ⟨rfl, e1⟩; have e2 := e1.symm; subst e2)
  go_ret2
  exact ⟨.slice (some ⟨b, 0, none⟩) (n + 1) cap, M ++ [g], rfl, HG.out, rfl, Fr.refl _ _ _⟩
set_option maxRecDepth 100000 in
set_option maxHeartbeats 3200000 in
theorem skipM_bar (base base2 n : Nat) (v : Value) (M : List Gr) (g : Gr) (bg : Bool) (wd rs : ByteArray) (w : World)
    (hn : M.length = n) (h : GsOwn w base base2 v (M ++ [g])) (hl : n ≤ 1000) (_hr : rs.size ≤ 4194304) (_hcall : (wd.toList == [99, 97, 108, 108, 101, 114]) = false) (_hlet : (wd.toList == [108, 101, 116]) = false) (_hbar : (wd.toList == [98, 97, 114]) = true) (_hwait : (wd.toList == [119, 97, 105, 116]) = false) (hc : ruleL rs.data.toList = false) :
    Calls Tryz.prog 114 #[v, .string wd, .string rs, .bool bg] w fun e w' => Read base base2 w ⟨(M ++ [g]).map grp, bg⟩ e w' := by
  obtain ⟨b, cap, hv, hbb1, hblt, f0, c0, c1, c2⟩ := h.last
  rw [hn] at hv c0 c1 c2
  subst hv
  have HG : Hid (GsOwn w base base2 (.slice (some ⟨b, 0, none⟩) (n + 1) cap) (M ++ [g])) := h
  have hI := OwnsR.rowsOf h.1
  have hc1 : n + 1 ≤ cap := by have := hI.1; rw [List.length_append, hn] at this; exact this
  have hc2 := hI.2.1
  unfold maxLen at hc2
  have HN : Hid (M.length = n) := hn
  clear h hI hn
  have hw3 : IntKind.i64.wrap (n : Int) = (n : Int) := IntWalk.i64_in _ (by omega)
  have hn0 : (0 : Int) ≤ (n : Int) := by omega
  have hn1 : (n : Int) ≤ (cap : Int) := by omega
  have hnl : decide ((n : Int) < 0) = false := decide_eq_false (by omega)
  have HRU : Hid (∀ W : World, Calls Tryz.prog 144 #[.string rs] W fun e w' => e = .returned (.bool (ruleL rs.data.toList)) ∧ w' = W) := fun W => specRule_any rs W (by unfold maxLen; omega)
  generalize ruleL rs.data.toList = R at *
  subst hc
  go_enter Tryz.func114, Tryz.ntmps114
  go_wp2_with (go_at_call 144; refine (HRU.out _).mono ?_; rintro e w1 ⟨rfl, e1⟩; have e2 := e1.symm; subst e2)
  go_ret2
  exact ⟨.slice (some ⟨b, 0, none⟩) (n + 1) cap, M ++ [g], rfl, HG.out, rfl, Fr.refl _ _ _⟩
set_option maxRecDepth 100000 in
set_option maxHeartbeats 3200000 in
theorem full_bar (base base2 n : Nat) (v : Value) (M : List Gr) (g : Gr) (bg : Bool) (wd rs : ByteArray) (w : World)
    (hn : M.length = n) (h : GsOwn w base base2 v (M ++ [g])) (hl : n ≤ 1000) (_hr : rs.size ≤ 4194304) (_hcall : (wd.toList == [99, 97, 108, 108, 101, 114]) = false) (_hlet : (wd.toList == [108, 101, 116]) = false) (_hbar : (wd.toList == [98, 97, 114]) = true) (_hwait : (wd.toList == [119, 97, 105, 116]) = false) (hc : ruleL rs.data.toList = true) (h6 : 6 ≤ g.ru.length) :
    Calls Tryz.prog 114 #[v, .string wd, .string rs, .bool bg] w fun e w' => Read base base2 w ⟨(M ++ [g]).map grp, bg⟩ e w' := by
  obtain ⟨b, cap, hv, hbb1, hblt, f0, c0, c1, c2⟩ := h.last
  rw [hn] at hv c0 c1 c2
  subst hv
  have HG : Hid (GsOwn w base base2 (.slice (some ⟨b, 0, none⟩) (n + 1) cap) (M ++ [g])) := h
  have hI := OwnsR.rowsOf h.1
  have hc1 : n + 1 ≤ cap := by have := hI.1; rw [List.length_append, hn] at this; exact this
  have hc2 := hI.2.1
  unfold maxLen at hc2
  have HN : Hid (M.length = n) := hn
  clear h hI hn
  have hw3 : IntKind.i64.wrap (n : Int) = (n : Int) := IntWalk.i64_in _ (by omega)
  have hn0 : (0 : Int) ≤ (n : Int) := by omega
  have hn1 : (n : Int) ≤ (cap : Int) := by omega
  have hnl : decide ((n : Int) < 0) = false := decide_eq_false (by omega)
  have HRU : Hid (∀ W : World, Calls Tryz.prog 144 #[.string rs] W fun e w' => e = .returned (.bool (ruleL rs.data.toList)) ∧ w' = W) := fun W => specRule_any rs W (by unfold maxLen; omega)
  generalize ruleL rs.data.toList = R at *
  subst hc
  go_enter Tryz.func114, Tryz.ntmps114
  go_wp2_with (go_at_call 144; refine (HRU.out _).mono ?_; rintro e w1 ⟨rfl, e1⟩; have e2 := e1.symm; subst e2)
  go_ret2
  exact ⟨.slice (some ⟨b, 0, none⟩) (n + 1) cap, M ++ [g], rfl, HG.out, rfl, Fr.refl _ _ _⟩
set_option maxRecDepth 100000 in
set_option maxHeartbeats 3200000 in
theorem skipM_none (base base2 n : Nat) (v : Value) (M : List Gr) (g : Gr) (bg : Bool) (wd rs : ByteArray) (w : World)
    (hn : M.length = n) (h : GsOwn w base base2 v (M ++ [g])) (hl : n ≤ 1000) (_hr : rs.size ≤ 4194304) (_hcall : (wd.toList == [99, 97, 108, 108, 101, 114]) = false) (_hlet : (wd.toList == [108, 101, 116]) = false) (_hbar : (wd.toList == [98, 97, 114]) = false) (_hwait : (wd.toList == [119, 97, 105, 116]) = false)  :
    Calls Tryz.prog 114 #[v, .string wd, .string rs, .bool bg] w fun e w' => Read base base2 w ⟨(M ++ [g]).map grp, bg⟩ e w' := by
  obtain ⟨b, cap, hv, hbb1, hblt, f0, c0, c1, c2⟩ := h.last
  rw [hn] at hv c0 c1 c2
  subst hv
  have HG : Hid (GsOwn w base base2 (.slice (some ⟨b, 0, none⟩) (n + 1) cap) (M ++ [g])) := h
  have hI := OwnsR.rowsOf h.1
  have hc1 : n + 1 ≤ cap := by have := hI.1; rw [List.length_append, hn] at this; exact this
  have hc2 := hI.2.1
  unfold maxLen at hc2
  have HN : Hid (M.length = n) := hn
  clear h hI hn
  have hw3 : IntKind.i64.wrap (n : Int) = (n : Int) := IntWalk.i64_in _ (by omega)
  have hn0 : (0 : Int) ≤ (n : Int) := by omega
  have hn1 : (n : Int) ≤ (cap : Int) := by omega
  have hnl : decide ((n : Int) < 0) = false := decide_eq_false (by omega)
  go_enter Tryz.func114, Tryz.ntmps114
  go_wp2
  go_ret2
  exact ⟨.slice (some ⟨b, 0, none⟩) (n + 1) cap, M ++ [g], rfl, HG.out, rfl, Fr.refl _ _ _⟩
set_option maxRecDepth 100000 in
set_option maxHeartbeats 3200000 in
theorem line_wait (base base2 n : Nat) (v : Value) (M : List Gr) (g : Gr) (bg : Bool) (wd rs : ByteArray) (w : World)
    (hn : M.length = n) (h : GsOwn w base base2 v (M ++ [g])) (hbb : base ≤ base2) (hb2 : base2 ≤ w.heap.size) (hl : n ≤ 1000) (_hr : rs.size ≤ 4194304) (_hcall : (wd.toList == [99, 97, 108, 108, 101, 114]) = false) (_hlet : (wd.toList == [108, 101, 116]) = false) (_hbar : (wd.toList == [98, 97, 114]) = false) (_hwait : (wd.toList == [119, 97, 105, 116]) = true)  :
    Calls Tryz.prog 114 #[v, .string wd, .string rs, .bool bg] w fun e w' => Read base base2 w ⟨M.map grp ++ [(g.nm, g.ru, (numF rs.data.toList : Int))], true⟩ e w' := by
  obtain ⟨b, cap, hv, hbb1, hblt, f0, c0, c1, c2⟩ := h.last
  rw [hn] at hv c0 c1 c2
  subst hv
  have HG : Hid (GsOwn w base base2 (.slice (some ⟨b, 0, none⟩) (n + 1) cap) (M ++ [g])) := h
  have hI := OwnsR.rowsOf h.1
  have hc1 : n + 1 ≤ cap := by have := hI.1; rw [List.length_append, hn] at this; exact this
  have hc2 := hI.2.1
  unfold maxLen at hc2
  have HN : Hid (M.length = n) := hn
  clear h hI hn
  have hw3 : IntKind.i64.wrap (n : Int) = (n : Int) := IntWalk.i64_in _ (by omega)
  have hn0 : (0 : Int) ≤ (n : Int) := by omega
  have hn1 : (n : Int) ≤ (cap : Int) := by omega
  have hnl : decide ((n : Int) < 0) = false := decide_eq_false (by omega)
  have hW := HG.out
  have H9 : Hid (GsOwn (w.setCell ⟨b, n * 3 + 2, none⟩ (.int .i64 (numF rs.data.toList : Int))) base base2 (.slice (some ⟨b, 0, none⟩) (n + 1) cap) (M ++ [{ g with wait := (numF rs.data.toList : Int) }])) := by
    have := GsOwn.wait (M := M) (numF rs.data.toList : Int) (by rw [HN.out]; exact hW)
    rw [HN.out] at this; exact this
  have HF9 : Hid (Fr base base2 w (w.setCell ⟨b, n * 3 + 2, none⟩ (.int .i64 (numF rs.data.toList : Int)))) := Fr.set hW.1 (by omega)
  have HNM : Hid (∀ W : World, Calls Tryz.prog 145 #[.string rs, .int .i64 20] W fun e w' => e = .returned (.int .i64 (numF rs.data.toList : Int)) ∧ w' = W) := fun W => specNum_any rs W (by omega)
  clear hW
  generalize numF rs.data.toList = q at *
  go_enter Tryz.func114, Tryz.ntmps114
  go_wp2_with (go_at_call 145; refine (HNM.out _).mono ?_; rintro e w1 ⟨rfl, e1⟩; have e2 := e1.symm; subst e2)
  go_ret2
  exact ⟨.slice (some ⟨b, 0, none⟩) (n + 1) cap, M ++ [{ g with wait := (q : Int) }], rfl, H9.out, by rw [List.map_append]; rfl, HF9.out⟩
set_option maxRecDepth 100000 in
set_option maxHeartbeats 3200000 in
theorem line_let (base base2 n : Nat) (v : Value) (M : List Gr) (g : Gr) (bg : Bool) (wd rs : ByteArray) (w : World)
    (hn : M.length = n) (h : GsOwn w base base2 v (M ++ [g])) (hbb : base ≤ base2) (hb2 : base2 ≤ w.heap.size) (hl : n ≤ 1000) (_hr : rs.size ≤ 4194304) (_hcall : (wd.toList == [99, 97, 108, 108, 101, 114]) = false) (_hlet : (wd.toList == [108, 101, 116]) = true) (_hbar : (wd.toList == [98, 97, 114]) = false) (_hwait : (wd.toList == [119, 97, 105, 116]) = false) (hc : ruleL rs.data.toList = true) (h6 : g.ru.length < 6) :
    Calls Tryz.prog 114 #[v, .string wd, .string rs, .bool bg] w fun e w' => Read base base2 w ⟨M.map grp ++ [(g.nm, g.ru ++ [⟨true, rs⟩], g.wait)], true⟩ e w' := by
  obtain ⟨i9, hi9, hz90, hz91, hz92⟩ := info_rule
  obtain ⟨b, cap, hv, hbb1, hblt, f0, c0, c1, c2⟩ := h.last
  rw [hn] at hv c0 c1 c2
  subst hv
  have HG : Hid (GsOwn w base base2 (.slice (some ⟨b, 0, none⟩) (n + 1) cap) (M ++ [g])) := h
  have hI := OwnsR.rowsOf h.1
  have hc1 : n + 1 ≤ cap := by have := hI.1; rw [List.length_append, hn] at this; exact this
  have hc2 := hI.2.1
  unfold maxLen at hc2
  have HN : Hid (M.length = n) := hn
  clear h hI hn
  have hw3 : IntKind.i64.wrap (n : Int) = (n : Int) := IntWalk.i64_in _ (by omega)
  have hn0 : (0 : Int) ≤ (n : Int) := by omega
  have hn1 : (n : Int) ≤ (cap : Int) := by omega
  have hnl : decide ((n : Int) < 0) = false := decide_eq_false (by omega)
  have HRU : Hid (∀ W : World, Calls Tryz.prog 144 #[.string rs] W fun e w' => e = .returned (.bool (ruleL rs.data.toList)) ∧ w' = W) := fun W => specRule_any rs W (by unfold maxLen; omega)
  have HA : Hid (GsOwn (w.alloc (.cells #[.bool true, .string rs] 81)) base base2 (.slice (some ⟨b, 0, none⟩) (n + 1) cap) (M ++ [g])) := HG.out.alloc _
  have HNO : Hid (OwnsR FRu 81 (w.alloc (.cells #[.bool true, .string rs] 81)) base2 (.slice g.ra g.ru.length g.rc) g.ru) := (HA.out.2.1 g (by simp)).2
  have HX2 : Hid (∀ j u, (FRu.enc ⟨true, rs⟩)[j]? = some u → (w.alloc (.cells #[.bool true, .string rs] 81)).cell? ((⟨w.heap.size, 0, none⟩ : Addr).add j) = some u) := cell_two_new w _ _ _
  have HFA : Hid (Fr base base2 w (w.alloc (.cells #[.bool true, .string rs] 81))) := Fr.alloc base base2 w _ (by omega) hb2
  generalize ruleL rs.data.toList = R at *
  subst hc
  go_enter Tryz.func114, Tryz.ntmps114
  go_wp2_with (first | (go_at_call 144; refine (HRU.out _).mono ?_; rintro e w1 ⟨rfl, e1⟩; have e2 := e1.symm; subst e2) | (at_builtin; refine wpList_append_lies _ rfl _ _ 27 rfl base2 81 i9 (.agg #[.bool false, .string ⟨#[]⟩]) 2 24 Tryz.underlying27 hi9 hz90 hz91 hz92 rfl (by decide) _ _ _ rfl HNO.out ⟨w.heap.size, 0, none⟩ 1 1 (FRu.enc ⟨true, rs⟩) rfl rfl HX2.out (FRu.one ⟨true, rs⟩) (by omega) ?c3 ?c4 ?c5 (w.heap.size + 1) ?c6 ?_))
  case c3 => unfold maxLen; omega
  case c4 => omega
  case c5 => simp; omega
  case c6 => simp
  intro g1 k1 w8 hown8 hgrow8 hat8 hlt8
  have hr8 := HA.out.row2 hgrow8
  have H9 : Hid (GsOwn (w8.setCell ⟨b, M.length * 3 + 1, none⟩ (.slice (some ⟨g1, 0, none⟩) (g.ru.length + 1) k1)) base base2 (.slice (some ⟨b, 0, none⟩) (M.length + 1) cap) (M ++ [{ g with ru := g.ru ++ [⟨true, rs⟩], ra := some ⟨g1, 0, none⟩, rc := k1 }])) := GsOwn.rule (by rw [HN.out]; exact HA.out) hown8 hgrow8 hat8 (by simp)
  have HF8 : Hid (Fr base base2 w (w8.setCell ⟨b, M.length * 3 + 1, none⟩ (.slice (some ⟨g1, 0, none⟩) (g.ru.length + 1) k1))) := (HFA.out.trans (Fr.far hgrow8 (by simp; omega) (fun k hk => by have := OwnsR.block HNO.out k hk; omega))).trans (Fr.set hr8 (by have := hgrow8.size; simp at this; omega))
  have hl8 := row_last hr8
  rw [HN.out] at hl8 H9 HF8
  obtain ⟨f8, _, p1, _⟩ := hl8
  clear hown8 hgrow8 hat8 hr8 f0 c0 c1 c2
  go_wp2
  go_ret2
  exact ⟨.slice (some ⟨b, 0, none⟩) (n + 1) cap, M ++ [{ g with ru := g.ru ++ [⟨true, rs⟩], ra := some ⟨g1, 0, none⟩, rc := k1 }], rfl, H9.out, by rw [List.map_append]; rfl, HF8.out⟩
set_option maxRecDepth 100000 in
set_option maxHeartbeats 3200000 in
theorem line_bar (base base2 n : Nat) (v : Value) (M : List Gr) (g : Gr) (bg : Bool) (wd rs : ByteArray) (w : World)
    (hn : M.length = n) (h : GsOwn w base base2 v (M ++ [g])) (hbb : base ≤ base2) (hb2 : base2 ≤ w.heap.size) (hl : n ≤ 1000) (_hr : rs.size ≤ 4194304) (_hcall : (wd.toList == [99, 97, 108, 108, 101, 114]) = false) (_hlet : (wd.toList == [108, 101, 116]) = false) (_hbar : (wd.toList == [98, 97, 114]) = true) (_hwait : (wd.toList == [119, 97, 105, 116]) = false) (hc : ruleL rs.data.toList = true) (h6 : g.ru.length < 6) :
    Calls Tryz.prog 114 #[v, .string wd, .string rs, .bool bg] w fun e w' => Read base base2 w ⟨M.map grp ++ [(g.nm, g.ru ++ [⟨false, rs⟩], g.wait)], true⟩ e w' := by
  obtain ⟨i9, hi9, hz90, hz91, hz92⟩ := info_rule
  obtain ⟨b, cap, hv, hbb1, hblt, f0, c0, c1, c2⟩ := h.last
  rw [hn] at hv c0 c1 c2
  subst hv
  have HG : Hid (GsOwn w base base2 (.slice (some ⟨b, 0, none⟩) (n + 1) cap) (M ++ [g])) := h
  have hI := OwnsR.rowsOf h.1
  have hc1 : n + 1 ≤ cap := by have := hI.1; rw [List.length_append, hn] at this; exact this
  have hc2 := hI.2.1
  unfold maxLen at hc2
  have HN : Hid (M.length = n) := hn
  clear h hI hn
  have hw3 : IntKind.i64.wrap (n : Int) = (n : Int) := IntWalk.i64_in _ (by omega)
  have hn0 : (0 : Int) ≤ (n : Int) := by omega
  have hn1 : (n : Int) ≤ (cap : Int) := by omega
  have hnl : decide ((n : Int) < 0) = false := decide_eq_false (by omega)
  have HRU : Hid (∀ W : World, Calls Tryz.prog 144 #[.string rs] W fun e w' => e = .returned (.bool (ruleL rs.data.toList)) ∧ w' = W) := fun W => specRule_any rs W (by unfold maxLen; omega)
  have HA : Hid (GsOwn (w.alloc (.cells #[.bool false, .string rs] 81)) base base2 (.slice (some ⟨b, 0, none⟩) (n + 1) cap) (M ++ [g])) := HG.out.alloc _
  have HNO : Hid (OwnsR FRu 81 (w.alloc (.cells #[.bool false, .string rs] 81)) base2 (.slice g.ra g.ru.length g.rc) g.ru) := (HA.out.2.1 g (by simp)).2
  have HX2 : Hid (∀ j u, (FRu.enc ⟨false, rs⟩)[j]? = some u → (w.alloc (.cells #[.bool false, .string rs] 81)).cell? ((⟨w.heap.size, 0, none⟩ : Addr).add j) = some u) := cell_two_new w _ _ _
  have HFA : Hid (Fr base base2 w (w.alloc (.cells #[.bool false, .string rs] 81))) := Fr.alloc base base2 w _ (by omega) hb2
  generalize ruleL rs.data.toList = R at *
  subst hc
  go_enter Tryz.func114, Tryz.ntmps114
  go_wp2_with (first | (go_at_call 144; refine (HRU.out _).mono ?_; rintro e w1 ⟨rfl, e1⟩; have e2 := e1.symm; subst e2) | (at_builtin; refine wpList_append_lies _ rfl _ _ 27 rfl base2 81 i9 (.agg #[.bool false, .string ⟨#[]⟩]) 2 24 Tryz.underlying27 hi9 hz90 hz91 hz92 rfl (by decide) _ _ _ rfl HNO.out ⟨w.heap.size, 0, none⟩ 1 1 (FRu.enc ⟨false, rs⟩) rfl rfl HX2.out (FRu.one ⟨false, rs⟩) (by omega) ?c3 ?c4 ?c5 (w.heap.size + 1) ?c6 ?_))
  case c3 => unfold maxLen; omega
  case c4 => omega
  case c5 => simp; omega
  case c6 => simp
  intro g1 k1 w8 hown8 hgrow8 hat8 hlt8
  have hr8 := HA.out.row2 hgrow8
  have H9 : Hid (GsOwn (w8.setCell ⟨b, M.length * 3 + 1, none⟩ (.slice (some ⟨g1, 0, none⟩) (g.ru.length + 1) k1)) base base2 (.slice (some ⟨b, 0, none⟩) (M.length + 1) cap) (M ++ [{ g with ru := g.ru ++ [⟨false, rs⟩], ra := some ⟨g1, 0, none⟩, rc := k1 }])) := GsOwn.rule (by rw [HN.out]; exact HA.out) hown8 hgrow8 hat8 (by simp)
  have HF8 : Hid (Fr base base2 w (w8.setCell ⟨b, M.length * 3 + 1, none⟩ (.slice (some ⟨g1, 0, none⟩) (g.ru.length + 1) k1))) := (HFA.out.trans (Fr.far hgrow8 (by simp; omega) (fun k hk => by have := OwnsR.block HNO.out k hk; omega))).trans (Fr.set hr8 (by have := hgrow8.size; simp at this; omega))
  have hl8 := row_last hr8
  rw [HN.out] at hl8 H9 HF8
  obtain ⟨f8, _, p1, _⟩ := hl8
  clear hown8 hgrow8 hat8 hr8 f0 c0 c1 c2
  go_wp2
  go_ret2
  exact ⟨.slice (some ⟨b, 0, none⟩) (n + 1) cap, M ++ [{ g with ru := g.ru ++ [⟨false, rs⟩], ra := some ⟨g1, 0, none⟩, rc := k1 }], rfl, H9.out, by rw [List.map_append]; rfl, HF8.out⟩
end Go.Proofs.YtmgcdfmgmpnonaaGreatDoor.NrS
