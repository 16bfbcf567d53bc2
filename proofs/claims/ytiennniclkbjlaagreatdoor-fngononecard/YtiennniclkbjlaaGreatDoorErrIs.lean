/- errors.Is of two sentinels: true just if they are the same one. -/
import Derived.Test.YtiennniclkbjlaaGreatDoorStep
import Derived.LaidEql
import Derived.Stop.Asserts
import Derived.RowKitTokens
namespace Go.Proofs.YtiennniclkbjlaaGreatDoor.Tn
open Go.RowKit Go.Extern.Stop Go.Stop Go.Extern

theorem eisTypeOf (v : Value) (w : World) : (Extern.ReflectliteType.typeOf #[.iface 249 v]).run Tryz.prog w = .ok (.iface 156 (.agg #[.pointer (some ⟨5, 249, none⟩)])) w := by kernel_rfl
theorem eisComparable (w : World) : ((Extern.ReflectliteType.method fun t => do Go.Extern.Rtype.noPackHeld "Comparable" t; (fun a => Value.bool a.comparable) <$> typeInfo t) #[.agg #[.pointer (some ⟨5, 249, none⟩)]]).run Tryz.prog w = .ok (.bool true) w := by kernel_rfl
theorem eisMethod (v : Value) (w : World) : (Go.method 383 156 v "Comparable").run Tryz.prog w = .ok (230, v) w := by kernel_rfl
theorem eisComp : (Tryz.prog.info? 249).map (·.comparable) = some true := by kernel_rfl
theorem eisSize : (Tryz.prog.info? 272).map (·.size) = some 1 := by kernel_rfl
theorem eisNo1 (v : Value) (xT : TypeId) (w : World) : (Instr.typeAssert (.iface 249 v) xT 158 true).run Tryz.prog w = .ok (.tuple #[.nilIface, .bool false]) w := run_typeAssert_lacksB Tryz.underlying158 (by kernel_rfl) (by kernel_rfl) v xT w
theorem eisNo2 (v : Value) (xT : TypeId) (w : World) : (Instr.typeAssert (.iface 249 v) xT 161 true).run Tryz.prog w = .ok (.tuple #[.nilIface, .bool false]) w := run_typeAssert_lacksB Tryz.underlying161 (by kernel_rfl) (by kernel_rfl) v xT w
theorem eisNo3 (v : Value) (xT : TypeId) (w : World) : (Instr.typeAssert (.iface 249 v) xT 162 true).run Tryz.prog w = .ok (.tuple #[.nilIface, .bool false]) w := run_typeAssert_lacksB Tryz.underlying162 (by kernel_rfl) (by kernel_rfl) v xT w

set_option maxRecDepth 100000 in
set_option maxHeartbeats 1600000 in
theorem eis_same (a : Addr) (w : World) :
    Calls Tryz.prog 45 #[.iface 249 (.pointer (some a)), .iface 249 (.pointer (some a))] w fun e w' => e = .returned (.bool true) ∧ w' = w := by
  obtain ⟨i, hi, hcmp⟩ := Option.map_eq_some_iff.1 eisComp
  obtain ⟨j, hj, hjs⟩ := Option.map_eq_some_iff.1 eisSize
  have h8 := @run_callFunc_extern Tryz.prog 73 _ Extern.ReflectliteType.typeOf Tryz.func73 (by kernel_rfl) (by kernel_rfl) (by kernel_rfl) (by kernel_rfl)
  have h32 := @run_callFunc_extern Tryz.prog 230 _ (Extern.ReflectliteType.method fun t => do Go.Extern.Rtype.noPackHeld "Comparable" t; pure (.bool (← typeInfo t).comparable)) Tryz.func230 (by kernel_rfl) (by kernel_rfl) (by kernel_rfl) (by kernel_rfl)
  have tT := eisTypeOf
  have cT := eisComparable
  have mR := eisMethod
  have heq := run_eql_iface_ptr_same (P := Tryz.prog) w a Tryz.underlying76 Tryz.underlying249 hi hcmp hj
  go_enter Tryz.func45, Tryz.ntmps45
  go_wp2
  refine wp_loop_rounds 1 ?_
  rw [rounds_succ]
  go_wp2
  go_ret
  exact ⟨rfl, rfl⟩
set_option maxRecDepth 100000 in
set_option maxHeartbeats 1600000 in
theorem eis_other (a b : Addr) (ca cb : Array Value) (ta tb : TypeId) (w : World) (hne : a ≠ b) (ha : w.heap[a.block]? = some (.cells ca ta (0, 0))) (hb : w.heap[b.block]? = some (.cells cb tb (0, 0))) :
    Calls Tryz.prog 45 #[.iface 249 (.pointer (some a)), .iface 249 (.pointer (some b))] w fun e w' => e = .returned (.bool false) ∧ w' = w := by
  obtain ⟨i, hi, hcmp⟩ := Option.map_eq_some_iff.1 eisComp
  obtain ⟨j, hj, hjs⟩ := Option.map_eq_some_iff.1 eisSize
  have h8 := @run_callFunc_extern Tryz.prog 73 _ Extern.ReflectliteType.typeOf Tryz.func73 (by kernel_rfl) (by kernel_rfl) (by kernel_rfl) (by kernel_rfl)
  have h32 := @run_callFunc_extern Tryz.prog 230 _ (Extern.ReflectliteType.method fun t => do Go.Extern.Rtype.noPackHeld "Comparable" t; pure (.bool (← typeInfo t).comparable)) Tryz.func230 (by kernel_rfl) (by kernel_rfl) (by kernel_rfl) (by kernel_rfl)
  have tT := eisTypeOf
  have cT := eisComparable
  have mR := eisMethod
  have nE := eisNo1
  have uE := eisNo2
  have vE := eisNo3
  have heq := run_eql_iface_ptr_other (P := Tryz.prog) w Tryz.underlying76 Tryz.underlying249 hi hcmp hj (by rw [hjs]; decide) hne ha hb
  go_enter Tryz.func45, Tryz.ntmps45
  go_wp2
  refine wp_loop_rounds 1 ?_
  rw [rounds_succ]
  go_wp2
  go_ret
  exact ⟨rfl, rfl⟩
end Go.Proofs.YtiennniclkbjlaaGreatDoor.Tn
