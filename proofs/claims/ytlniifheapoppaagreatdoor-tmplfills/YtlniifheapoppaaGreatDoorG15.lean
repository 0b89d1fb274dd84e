/- Errors that wrap errors: a chain of Faults, an Errno at its end; what errors.As and errors.Is make of them. -/
import Derived.Deep.LoopGhost
import Derived.Test.YtlniifheapoppaaGreatDoorG6
import Derived.Test.YtlniifheapoppaaGreatDoorG9
namespace Go.Proofs.YtlniifheapoppaaGreatDoor
open Go.RowKit Go.Extern.Stop Go.Stop Go.Extern

/-- Parts from the outermost on, then an Errno. -/
def Chain (w : World) (e : Int) : List (List UInt8 × Int) → Value → Prop
  | [], v => v = .iface 63 (.int .i64 e)
  | p :: r, v => ∃ B v', v = .iface 104 (.pointer (some ⟨B, 0, none⟩)) ∧ w.cell? ⟨B, 0, none⟩ = some (.string (baL p.1)) ∧ w.cell? ⟨B, 1, none⟩ = some (.int .i64 p.2) ∧ w.cell? ⟨B, 2, none⟩ = some v' ∧ Chain w e r v'
theorem Chain.next {w w' : World} {e : Int} (hb : Below w.heap.size w w') : ∀ {ps : List (List UInt8 × Int)} {v : Value}, Chain w e ps v → Chain w' e ps v
  | [], _, h => h
  | _ :: _, _, ⟨B, v', h1, h2, h3, h4, h5⟩ => ⟨B, v', h1, keep_cell hb h2, keep_cell hb h3, keep_cell hb h4, Chain.next hb h5⟩

theorem unwrap_v (B : Nat) (v : Value) (w : World) (h1 : w.cell? ⟨B, 2, none⟩ = some v) :
    Calls Tryz.prog 177 #[.pointer (some ⟨B, 0, none⟩)] w fun e w' => e = .returned v ∧ w' = w := by
  go_enter Tryz.func177, Tryz.ntmps177
  go_wp2
  go_ret
  exact ⟨rfl, rfl⟩

theorem rn_value2 (t : Addr) (w : World) : (ReflectliteValue.unpack (.iface 150 (.pointer (some t)))).run Tryz.prog w
    = .ok (.agg #[.pointer (some ⟨5, 150, none⟩), .pointer (some ⟨w.heap.size, 0, none⟩), .int .u64 150]) (w.alloc (.cells #[.pointer (some t)] 150)) := by kernel_rfl
theorem rn_value1 (n : Int) (w : World) : (ReflectliteValue.unpack (.iface 63 (.int .i64 n))).run Tryz.prog w
    = .ok (.agg #[.pointer (some ⟨5, 63, none⟩), .pointer (some ⟨w.heap.size, 0, none⟩), .int .u64 130]) (w.alloc (.cells #[.int .i64 n] 63)) := by kernel_rfl
theorem rn_type2 (a : Addr) (w : World) : (ReflectliteValue.methodAny (ReflectliteValue.valueError "reflectlite.Value.Type" 0) (fun t _ _ _ => ReflectliteType.toType t) #[.agg #[.pointer (some ⟨5, 150, none⟩), .pointer (some a), .int .u64 150]]).run Tryz.prog w
    = .ok (.iface 189 (.agg #[.pointer (some ⟨5, 150, none⟩)])) w := by kernel_rfl
theorem rn_kind2 (w : World) : ((ReflectliteType.abiMethod fun t => (fun a : Nat => Value.int IntKind.u8 (a : Int)) <$> Rtype.kind t) #[.pointer (some ⟨5, 150, none⟩)]).run Tryz.prog w = .ok (.int .u8 22) w := by kernel_rfl
theorem rn_kind1 (w : World) : ((ReflectliteType.abiMethod fun t => (fun a : Nat => Value.int IntKind.u8 (a : Int)) <$> Rtype.kind t) #[.pointer (some ⟨5, 63, none⟩)]).run Tryz.prog w = .ok (.int .u8 2) w := by kernel_rfl
theorem rn_elem2 (w : World) : (ReflectliteType.method ReflectliteType.elem #[.agg #[.pointer (some ⟨5, 150, none⟩)]]).run Tryz.prog w = .ok (.iface 189 (.agg #[.pointer (some ⟨5, 63, none⟩)])) w := by kernel_rfl
theorem rn_impl1 (w : World) : (ReflectliteType.relation "Implements" ReflectliteType.implements_ #[.agg #[.pointer (some ⟨5, 63, none⟩)], .iface 189 (.agg #[.pointer (some ⟨5, 34, none⟩)])]).run Tryz.prog w = .ok (.bool true) w := by kernel_rfl
theorem rn_assignFE (w : World) : (ReflectliteType.relation "AssignableTo" ReflectliteType.assignableTo #[.agg #[.pointer (some ⟨5, 104, none⟩)], .iface 189 (.agg #[.pointer (some ⟨5, 63, none⟩)])]).run Tryz.prog w = .ok (.bool false) w := by kernel_rfl
theorem rn_assignEE (w : World) : (ReflectliteType.relation "AssignableTo" ReflectliteType.assignableTo #[.agg #[.pointer (some ⟨5, 63, none⟩)], .iface 189 (.agg #[.pointer (some ⟨5, 63, none⟩)])]).run Tryz.prog w = .ok (.bool true) w := by kernel_rfl
theorem rn_assignEF (w : World) : (ReflectliteType.relation "AssignableTo" ReflectliteType.assignableTo #[.agg #[.pointer (some ⟨5, 63, none⟩)], .iface 189 (.agg #[.pointer (some ⟨5, 104, none⟩)])]).run Tryz.prog w = .ok (.bool false) w := by kernel_rfl
theorem rn_elemOf (w : World) : (Rtype.elem? 150).run Tryz.prog w = .ok (some 63) w := by kernel_rfl
theorem rn_mk (p : Addr) (w : World) : (ReflectliteValue.mk 63 p ReflectliteValue.flagAddr).run Tryz.prog w = .ok (.agg #[.pointer (some ⟨5, 63, none⟩), .pointer (some p), .int .u64 386]) w := by kernel_rfl
theorem rn_parts2 (a : Addr) (w : World) : (ReflectliteValue.parts (.agg #[.pointer (some ⟨5, 150, none⟩), .pointer (some a), .int .u64 150])).run Tryz.prog w = .ok (some (150, a, 150)) w := by kernel_rfl
theorem rn_parts1a (a : Addr) (w : World) : (ReflectliteValue.parts (.agg #[.pointer (some ⟨5, 63, none⟩), .pointer (some a), .int .u64 386])).run Tryz.prog w = .ok (some (63, a, 386)) w := by kernel_rfl
theorem rn_parts1 (a : Addr) (w : World) : (ReflectliteValue.parts (.agg #[.pointer (some ⟨5, 63, none⟩), .pointer (some a), .int .u64 130])).run Tryz.prog w = .ok (some (63, a, 130)) w := by kernel_rfl
theorem rn_direct (w : World) : (Rtype.directlyAssignable 63 63).run Tryz.prog w = .ok true w := by kernel_rfl
theorem rn_isNil (a p : Addr) (W : World) (ha : W.cell? a = some (.pointer (some p))) :
    (ReflectliteValue.method (ReflectliteValue.valueError "reflectlite.Value.IsNil" 0) ReflectliteValue.isNil #[.agg #[.pointer (some ⟨5, 150, none⟩), .pointer (some a), .int .u64 150]]).run Tryz.prog W = .ok (.bool false) W := by
  rw [show ReflectliteValue.method (ReflectliteValue.valueError "reflectlite.Value.IsNil" 0) ReflectliteValue.isNil #[.agg #[.pointer (some ⟨5, 150, none⟩), .pointer (some a), .int .u64 150]] = (ReflectliteValue.parts (.agg #[.pointer (some ⟨5, 150, none⟩), .pointer (some a), .int .u64 150]) >>= _) from rfl]
  simp [rn_parts2, ReflectliteValue.isNil, loadVar, isAgg, underlying, Tryz.underlying150, ha, Result.andThen]
theorem rn_elemV (a p : Addr) (W : World) (ha : W.cell? a = some (.pointer (some p))) :
    (ReflectliteValue.method (ReflectliteValue.valueError "reflectlite.Value.Elem" 0) ReflectliteValue.elem #[.agg #[.pointer (some ⟨5, 150, none⟩), .pointer (some a), .int .u64 150]]).run Tryz.prog W
      = .ok (.agg #[.pointer (some ⟨5, 63, none⟩), .pointer (some p), .int .u64 386]) W := by
  rw [show ReflectliteValue.method (ReflectliteValue.valueError "reflectlite.Value.Elem" 0) ReflectliteValue.elem #[.agg #[.pointer (some ⟨5, 150, none⟩), .pointer (some a), .int .u64 150]] = (ReflectliteValue.parts (.agg #[.pointer (some ⟨5, 150, none⟩), .pointer (some a), .int .u64 150]) >>= _) from rfl]
  simp [rn_parts2, ReflectliteValue.elem, loadVar, isAgg, underlying, Tryz.underlying150, ha, Result.andThen, rn_elemOf, rn_mk]
theorem rn_set (ta b : Addr) (e : Int) (old : Value) (W : World) (hb : W.cell? b = some (.int .i64 e)) (ht : W.cell? ta = some old) (hf : W.frozen? ta = false) :
    (ReflectliteValue.set #[.agg #[.pointer (some ⟨5, 63, none⟩), .pointer (some ta), .int .u64 386], .agg #[.pointer (some ⟨5, 63, none⟩), .pointer (some b), .int .u64 130]]).run Tryz.prog W
      = .ok (.tuple #[]) (W.setCell ta (.int .i64 e)) := by
  rw [show ReflectliteValue.set #[.agg #[.pointer (some ⟨5, 63, none⟩), .pointer (some ta), .int .u64 386], .agg #[.pointer (some ⟨5, 63, none⟩), .pointer (some b), .int .u64 130]] = (ReflectliteValue.parts (.agg #[.pointer (some ⟨5, 63, none⟩), .pointer (some ta), .int .u64 386]) >>= fun p => ReflectliteValue.parts (.agg #[.pointer (some ⟨5, 63, none⟩), .pointer (some b), .int .u64 130]) >>= _) from rfl]
  simp [rn_parts1a, rn_parts1, ReflectliteValue.flagAddr, loadVar, isAgg, underlying, Tryz.underlying63, hb, Result.andThen, rn_direct, storeVar, Value.cells, storeCells, Addr.add]
  rw [run_store Tryz.prog W ta _ _ (by rfl)]
  simp [ht, hf]

theorem no_as (v : Value) (xT : TypeId) (w : World) : (Instr.typeAssert (.iface 104 v) xT 201 true).run Tryz.prog w = .ok (.tuple #[.nilIface, .bool false]) w := run_typeAssert_lacksB Tryz.underlying201 (by kernel_rfl) (by kernel_rfl) v xT w
theorem no_asE (v : Value) (xT : TypeId) (w : World) : (Instr.typeAssert (.iface 63 v) xT 201 true).run Tryz.prog w = .ok (.tuple #[.nilIface, .bool false]) w := run_typeAssert_lacksB Tryz.underlying201 (by kernel_rfl) (by kernel_rfl) v xT w
theorem no_unE (v : Value) (xT : TypeId) (w : World) : (Instr.typeAssert (.iface 63 v) xT 194 true).run Tryz.prog w = .ok (.tuple #[.nilIface, .bool false]) w := run_typeAssert_lacksB Tryz.underlying194 (by kernel_rfl) (by kernel_rfl) v xT w
theorem no_unsE (v : Value) (xT : TypeId) (w : World) : (Instr.typeAssert (.iface 63 v) xT 196 true).run Tryz.prog w = .ok (.tuple #[.nilIface, .bool false]) w := run_typeAssert_lacksB Tryz.underlying196 (by kernel_rfl) (by kernel_rfl) v xT w
end Go.Proofs.YtlniifheapoppaaGreatDoor
/- What errors.As and errors.Is make of a chain. -/
namespace Go.Proofs.YtlniifheapoppaaGreatDoor
open Go.RowKit Go.Extern.Stop Go.Stop Go.Extern

theorem Chain.iface {w : World} {n : Int} : ∀ {ps : List (List UInt8 × Int)} {v : Value}, Chain w n ps v → ∃ ty y, v = .iface ty y
  | [], _, h => ⟨_, _, h⟩
  | _ :: _, _, ⟨_, _, h, _⟩ => ⟨_, _, h⟩
/-- errors.as of a chain, for a variable of Errno: it is set. -/
structure AsR (t : Addr) (v : Value) (w w' : World) (e : Ending) : Prop where
  ret : e = .returned (.bool true)
  cell : w'.cell? t = some v
  bel : Below t.block w w'
set_option maxHeartbeats 4000000 in
set_option maxRecDepth 4000 in
theorem asl_num (n : Int) (ps : List (List UInt8 × Int)) (v : Value) (t a : Addr) (old : Value) (w : World) (hC : Chain w n ps v) (ha : w.cell? a = some (.pointer (some t))) (ht0 : w.cell? t = some old) (hf0 : w.frozen? t = false) :
    Calls Tryz.prog 80 #[v, .iface 150 (.pointer (some t)), .agg #[.pointer (some ⟨5, 150, none⟩), .pointer (some a), .int .u64 150], .iface 189 (.agg #[.pointer (some ⟨5, 63, none⟩)])] w fun e w' => AsR t (.int .i64 n) w w' e := by
  have h6 := @run_callFunc_extern Tryz.prog 77 _ (fun args => ReflectliteValue.unpack (args.getD 0 (.tuple #[]))) Tryz.func77 (by kernel_rfl) (by kernel_rfl) (by kernel_rfl) (by kernel_rfl)
  have h10 := @run_callFunc_extern Tryz.prog 75 _ ReflectliteType.typeOf Tryz.func75 (by kernel_rfl) (by kernel_rfl) (by kernel_rfl) (by kernel_rfl)
  have h35 := @run_callFunc_extern Tryz.prog 183 _ (ReflectliteType.relation "AssignableTo" ReflectliteType.assignableTo) Tryz.func183 (by kernel_rfl) (by kernel_rfl) (by kernel_rfl) (by kernel_rfl)
  have h11 := @run_callFunc_extern Tryz.prog 106 _ (ReflectliteValue.method (ReflectliteValue.valueError "reflectlite.Value.Elem" 0) ReflectliteValue.elem) Tryz.func106 (by kernel_rfl) (by kernel_rfl) (by kernel_rfl) (by kernel_rfl)
  have h12 := @run_callFunc_extern Tryz.prog 107 _ ReflectliteValue.set Tryz.func107 (by kernel_rfl) (by kernel_rfl) (by kernel_rfl) (by kernel_rfl)
  have tF := rl_typeOf1
  have tE := rl_typeOfE
  have mA := rl_mAssign
  have a1 := rn_assignFE
  have a2 := rn_assignEE
  have nA := no_as
  have hU := has_unwrap
  have mU := m_unwrap
  have v1 := rn_value1 n
  have htl : t.block < w.heap.size := World.block_lt_of_cell? w t ht0
  obtain ⟨W, HW⟩ : ∃ W, Hid (w.alloc (.cells #[.pointer (some ⟨5, 150, none⟩), .pointer (some a), .int .u64 150] 158) = W) := ⟨_, rfl⟩
  have hbx : Below w.heap.size w W := by rw [← HW.out]; exact alloc_below _ _
  have hc0 : W.cell? ⟨w.heap.size, 0, none⟩ = some (.pointer (some ⟨5, 150, none⟩)) := by rw [← HW.out]; exact box0 rfl
  have hc1 : W.cell? ⟨w.heap.size, 1, none⟩ = some (.pointer (some a)) := by rw [← HW.out]; exact box0 rfl
  have hc2 : W.cell? ⟨w.heap.size, 2, none⟩ = some (.int .u64 150) := by rw [← HW.out]; exact box0 rfl
  have el := rn_elemV a t W (keep_cell hbx ha)
  have htW := keep_cell hbx ht0
  have hWs : W.heap.size = w.heap.size + 1 := by rw [← HW.out]; simp
  have st := rn_set t ⟨w.heap.size + 1, 0, none⟩ n old (W.alloc (.cells #[.int .i64 n] 63)) (by rw [← hWs]; exact box0 rfl) (alloc_cell htW)
    (by rw [World.frozen?_alloc_old _ _ t (by simp; omega), hbx.frozen (p := t) htl]; exact hf0)
  have HCW : Hid (Chain W n ps v) := hC.next hbx
  have HFin : Hid (AsR t (.int .i64 n) w ((W.alloc (.cells #[.int .i64 n] 63)).setCell t (.int .i64 n)) (.returned (.bool true))) := by
    refine ⟨rfl, World.cell?_setCell_same _ _ _ (alloc_cell htW), ?_⟩
    exact ((hbx.mono (Nat.le_of_lt htl)).trans ((Below.refl _ _).alloc (by omega) _)).setCell (p := t) (Nat.le_refl _) _
  clear hC ha ht0 hf0 htW hbx
  obtain ⟨g, Hg⟩ : ∃ g, Hid (ps.length = g) := ⟨_, rfl⟩
  go_enter Tryz.func80, Tryz.ntmps80
  go_wp2
  rw [HW.out]
  go_loopg [0] g (fun gk v wr => wr = W ∧ ∃ ps, Hid (ps.length = gk) ∧ Hid (Chain W n ps v))
  case atStart => exact ⟨rfl, ps, Hg, HCW⟩
  case round =>
    obtain ⟨rfl, ps, HL, HC⟩ := hrel
    clear HCW Hg
    cases ps with
    | nil =>
      have hv : u0 = .iface 63 (.int .i64 n) := HC.out
      subst hv
      clear HC HL
      go_wp2
      go_ret
      exact HFin.out
    | cons p r =>
      obtain ⟨B, v', rfl, h0, h1, h2, h3⟩ := HC.out
      have HC2 : Hid (Chain wr n r v') := h3
      obtain ⟨ty, y, rfl⟩ := h3.iface
      clear h0 h1 h3 HC
      go_wp2_with fail
      refine (unwrap_v B _ _ h2).mono ?_
      rintro e w1 ⟨rfl, rfl⟩
      go_wp2
      go_roundg r.length
      case rel => exact ⟨rfl, r, rfl, HC2⟩
      case measure => rw [← HL.out]; simp
end Go.Proofs.YtlniifheapoppaaGreatDoor
