/- errors.As and errors.Is at a Fault: the error is a pointer to one, what it wraps is an error by its number. -/
import Derived.Test.YtlniifheapoppaaDoorProg
import Derived.WalkKit
import Derived.LaidEql
import Derived.Stop.Asserts
import Derived.RowKitTokens
import Derived.Lib.IfaceEq
import Derived.Test.YtlniifheapoppaaDoorG5
namespace Go.Proofs.YtlniifheapoppaaDoor
open Go.RowKit Go.Extern.Stop Go.Stop Go.Extern

def hnd (t : Nat) : Value := .pointer (some ⟨4, t, none⟩)
theorem rl_value1 (t : Addr) (w : World) : (ReflectliteValue.unpack (.iface 92 (.pointer (some t)))).run Tryd.prog w
    = .ok (.agg #[.pointer (some ⟨4, 92, none⟩), .pointer (some ⟨w.heap.size, 0, none⟩), .int .u64 150]) (w.alloc (.cells #[.pointer (some t)] 92)) := by kernel_rfl
theorem rl_kind1 (w : World) : ((ReflectliteType.abiMethod fun t => (fun a : Nat => Value.int IntKind.u8 (a : Int)) <$> Rtype.kind t) #[.pointer (some ⟨4, 92, none⟩)]).run Tryd.prog w = .ok (.int .u8 22) w := by kernel_rfl
theorem rl_compE (w : World) : ((ReflectliteType.method fun t => do Rtype.noPackHeld "Comparable" t; (fun a => Value.bool a.comparable) <$> typeInfo t) #[.agg #[.pointer (some ⟨4, 35, none⟩)]]).run Tryd.prog w = .ok (.bool true) w := by kernel_rfl
theorem rl_mk (p : Addr) (w : World) : (ReflectliteValue.mk 92 p ReflectliteValue.flagAddr).run Tryd.prog w = .ok (.agg #[.pointer (some ⟨4, 92, none⟩), .pointer (some p), .int .u64 406]) w := by kernel_rfl
theorem rl_parts1a (a : Addr) (w : World) : (ReflectliteValue.parts (.agg #[.pointer (some ⟨4, 92, none⟩), .pointer (some a), .int .u64 406])).run Tryd.prog w = .ok (some (92, a, 406)) w := by kernel_rfl
theorem rl_parts1 (a : Addr) (w : World) : (ReflectliteValue.parts (.agg #[.pointer (some ⟨4, 92, none⟩), .pointer (some a), .int .u64 150])).run Tryd.prog w = .ok (some (92, a, 150)) w := by kernel_rfl
theorem rl_direct (w : World) : (Rtype.directlyAssignable 92 92).run Tryd.prog w = .ok true w := by kernel_rfl

theorem rl_set (ta b e : Addr) (old : Value) (W : World) (hb : W.cell? b = some (.pointer (some e))) (ht : W.cell? ta = some old) (hf : W.frozen? ta = false) :
    (ReflectliteValue.set #[.agg #[.pointer (some ⟨4, 92, none⟩), .pointer (some ta), .int .u64 406], .agg #[.pointer (some ⟨4, 92, none⟩), .pointer (some b), .int .u64 150]]).run Tryd.prog W
      = .ok (.tuple #[]) (W.setCell ta (.pointer (some e))) := by
  rw [show ReflectliteValue.set #[.agg #[.pointer (some ⟨4, 92, none⟩), .pointer (some ta), .int .u64 406], .agg #[.pointer (some ⟨4, 92, none⟩), .pointer (some b), .int .u64 150]] = (ReflectliteValue.parts (.agg #[.pointer (some ⟨4, 92, none⟩), .pointer (some ta), .int .u64 406]) >>= fun p => ReflectliteValue.parts (.agg #[.pointer (some ⟨4, 92, none⟩), .pointer (some b), .int .u64 150]) >>= _) from rfl]
  simp [rl_parts1a, rl_parts1, ReflectliteValue.flagAddr, loadVar, isAgg, underlying, Tryd.underlying92, hb, Result.andThen, rl_direct, storeVar, Value.cells, storeCells, Addr.add]
  rw [run_store Tryd.prog W ta _ _ (by rfl)]
  simp [ht, hf]
end Go.Proofs.YtlniifheapoppaaDoor
/- The contracts of errors.As and errors.Is at a Fault. -/
namespace Go.Proofs.YtlniifheapoppaaDoor
open Go.RowKit Go.Extern.Stop Go.Stop Go.Extern

theorem comp_errno : (Tryd.prog.info? 35).map (·.comparable) = some true := by kernel_rfl

end Go.Proofs.YtlniifheapoppaaDoor
