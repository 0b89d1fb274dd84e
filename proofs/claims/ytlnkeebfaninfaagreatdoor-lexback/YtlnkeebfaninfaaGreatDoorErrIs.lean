/- The contracts of errors.As and errors.Is at a Fault. -/
import Derived.Test.YtlnkeebfaninfaaGreatDoorErrAs
import Derived.Test.YtlnkeebfaninfaaGreatDoorLexOne
import Derived.Lib.IfaceEq
namespace Go.Proofs.YtlnkeebfaninfaaGreatDoor
open Go.RowKit Go.Extern.Stop Go.Stop Go.Extern

theorem no_is (v : Value) (xT : TypeId) (w : World) : (Instr.typeAssert (.iface 32 v) xT 90 true).run Tryz.prog w = .ok (.tuple #[.nilIface, .bool false]) w := run_typeAssert_lacksB Tryz.underlying90 (by kernel_rfl) (by kernel_rfl) v xT w
theorem has_unwrap (v : Value) (xT : TypeId) (w : World) : (Instr.typeAssert (.iface 32 v) xT 85 true).run Tryz.prog w = .ok (.tuple #[.iface 32 v, .bool true]) w := run_typeAssert_hasB Tryz.underlying85 (by kernel_rfl) v xT w
theorem m_unwrap (v : Value) (w : World) : (Go.method 269 32 v "Unwrap").run Tryz.prog w = .ok (110, v) w := by kernel_rfl

theorem unwrap_any (B : Nat) (f : Int) (w : World) (h1 : w.cell? ⟨B, 2, none⟩ = some (.iface 38 (.int .i64 f))) :
    Calls Tryz.prog 110 #[.pointer (some ⟨B, 0, none⟩)] w fun e w' => e = .returned (.iface 38 (.int .i64 f)) ∧ w' = w := by
  go_enter Tryz.func110, Tryz.ntmps110
  go_wp2
  go_ret
  exact ⟨rfl, rfl⟩
theorem comp_errno : (Tryz.prog.info? 38).map (·.comparable) = some true := by kernel_rfl

set_option maxHeartbeats 4000000 in
set_option maxRecDepth 4000 in
theorem is_hit (B : Nat) (a f : Int) (w : World) (hF : FaultAt w B a f) :
    Calls Tryz.prog 10 #[.iface 32 (.pointer (some ⟨B, 0, none⟩)), .iface 38 (.int .i64 f)] w fun e w' => e = .returned (.bool true) ∧ w' = w := by
  have h1 : w.cell? ⟨B, 2, none⟩ = some (.iface 38 (.int .i64 f)) := by
    unfold FaultAt at hF
    unfold World.cell?
    rw [hF]; rfl
  clear hF
  have h8 := @run_callFunc_extern Tryz.prog 22 _ ReflectliteType.typeOf Tryz.func22 (by kernel_rfl) (by kernel_rfl) (by kernel_rfl) (by kernel_rfl)
  have h32 := @run_callFunc_extern Tryz.prog 117 _ (ReflectliteType.method fun t => do Rtype.noPackHeld "Comparable" t; pure (.bool (← typeInfo t).comparable)) Tryz.func117 (by kernel_rfl) (by kernel_rfl) (by kernel_rfl) (by kernel_rfl)
  have tT := rl_typeOfE
  have cT := rl_compE
  have mR := rl_mComp
  have nI := no_is
  have hU := has_unwrap
  have mU := m_unwrap
  have hty := run_eql_iface_types (P := Tryz.prog) 32 38 (.pointer (some ⟨B, 0, none⟩)) (.int .i64 f) Tryz.underlying26 (by decide) w
  have heq : (binOp .eql 26 (.iface 38 (.int .i64 f)) (.iface 38 (.int .i64 f))).run Tryz.prog w = .ok (.bool true) w := by
    rw [Lib.run_eql_iface_int w f f Tryz.underlying26 comp_errno Tryz.underlying38]; simp
  go_enter Tryz.func10, Tryz.ntmps10
  go_wp2
  refine wp_loop_rounds 2 ?_
  rw [rounds_succ]
  go_wp2_with (go_at_call 110; refine (unwrap_any B f _ h1).mono ?_; rintro e w1 ⟨rfl, rfl⟩)
  rw [rounds_succ]
  go_wp2
  go_ret
  exact ⟨rfl, rfl⟩
/-- errors.As of a Fault, for a variable of that kind: it is set. -/
def asW (e t : Addr) (w : World) : World := ((((w.alloc (.cells #[.pointer (some t)] 34)).alloc (.cells #[.pointer (some ⟨5, 34, none⟩), .pointer (some ⟨w.heap.size, 0, none⟩), .int .u64 150] 58)).alloc (.cells #[.pointer (some ⟨5, 34, none⟩), .pointer (some ⟨w.heap.size, 0, none⟩), .int .u64 150] 58)).alloc (.cells #[.pointer (some e)] 32)).setCell t (.pointer (some e))
def ErrW (w : World) : Prop := w.cell? ⟨0, 0, none⟩ = some (.iface 78 (.agg #[.pointer (some ⟨5, 26, none⟩)]))

set_option maxHeartbeats 4000000 in
set_option maxRecDepth 4000 in
theorem as_hit (e t : Addr) (old : Value) (w : World) (hg : ErrW w) (ht0 : w.cell? t = some old) (hf0 : w.frozen? t = false) :
    Calls Tryz.prog 9 #[.iface 32 (.pointer (some e)), .iface 34 (.pointer (some t))] w fun ev w' => ev = .returned (.bool true) ∧ w' = asW e t w := by
  unfold ErrW at hg
  have h6 := @run_callFunc_extern Tryz.prog 18 _ (fun args => ReflectliteValue.unpack (args.getD 0 (.tuple #[]))) Tryz.func18 (by kernel_rfl) (by kernel_rfl) (by kernel_rfl) (by kernel_rfl)
  have h7 := @run_callFunc_extern Tryz.prog 19 _ (ReflectliteValue.methodAny (ReflectliteValue.valueError "reflectlite.Value.Type" 0) (fun t _ _ _ => ReflectliteType.toType t)) Tryz.func19 (by kernel_rfl) (by kernel_rfl) (by kernel_rfl) (by kernel_rfl)
  have h8 := @run_callFunc_extern Tryz.prog 20 _ (ReflectliteValue.method (ReflectliteValue.valueError "reflectlite.Value.IsNil" 0) ReflectliteValue.isNil) Tryz.func20 (by kernel_rfl) (by kernel_rfl) (by kernel_rfl) (by kernel_rfl)
  have h27 := @run_callFunc_extern Tryz.prog 106 _ (ReflectliteType.abiMethod fun t => do pure (.int .u8 (← Rtype.kind t))) Tryz.func106 (by kernel_rfl) (by kernel_rfl) (by kernel_rfl) (by kernel_rfl)
  have h37 := @run_callFunc_extern Tryz.prog 118 _ (ReflectliteType.method ReflectliteType.elem) Tryz.func118 (by kernel_rfl) (by kernel_rfl) (by kernel_rfl) (by kernel_rfl)
  have h38 := @run_callFunc_extern Tryz.prog 119 _ (ReflectliteType.relation "Implements" ReflectliteType.implements_) Tryz.func119 (by kernel_rfl) (by kernel_rfl) (by kernel_rfl) (by kernel_rfl)
  have h10 := @run_callFunc_extern Tryz.prog 22 _ ReflectliteType.typeOf Tryz.func22 (by kernel_rfl) (by kernel_rfl) (by kernel_rfl) (by kernel_rfl)
  have h35 := @run_callFunc_extern Tryz.prog 116 _ (ReflectliteType.relation "AssignableTo" ReflectliteType.assignableTo) Tryz.func116 (by kernel_rfl) (by kernel_rfl) (by kernel_rfl) (by kernel_rfl)
  have h11 := @run_callFunc_extern Tryz.prog 35 _ (ReflectliteValue.method (ReflectliteValue.valueError "reflectlite.Value.Elem" 0) ReflectliteValue.elem) Tryz.func35 (by kernel_rfl) (by kernel_rfl) (by kernel_rfl) (by kernel_rfl)
  have h12 := @run_callFunc_extern Tryz.prog 36 _ ReflectliteValue.set Tryz.func36 (by kernel_rfl) (by kernel_rfl) (by kernel_rfl) (by kernel_rfl)
  have tO := rl_typeOf1
  have mA := rl_mAssign
  have a1 := rl_assign1
  have v1 := rl_value1
  have f6 := rl_value2
  have f7 := rl_type2
  have mK := rl_mKind
  have mE := rl_mElem
  have mI := rl_mImpl
  have k2 := rl_kind2
  have k1 := rl_kind1
  have e2 := rl_elem2
  have i1 := rl_impl1
  have htl : t.block < w.heap.size := World.block_lt_of_cell? w t ht0
  have n8 := rl_isNil ⟨w.heap.size, 0, none⟩ t ((w.alloc (.cells #[.pointer (some t)] 34)).alloc (.cells #[.pointer (some ⟨5, 34, none⟩), .pointer (some ⟨w.heap.size, 0, none⟩), .int .u64 150] 58)) (alloc_cell (box0 rfl))
  have hg2 : ((w.alloc (.cells #[.pointer (some t)] 34)).alloc (.cells #[.pointer (some ⟨5, 34, none⟩), .pointer (some ⟨w.heap.size, 0, none⟩), .int .u64 150] 58)).cell? ⟨0, 0, none⟩ = some (.iface 78 (.agg #[.pointer (some ⟨5, 26, none⟩)])) := alloc_cell (alloc_cell hg)
  have el := rl_elemV ⟨w.heap.size, 0, none⟩ t (((w.alloc (.cells #[.pointer (some t)] 34)).alloc (.cells #[.pointer (some ⟨5, 34, none⟩), .pointer (some ⟨w.heap.size, 0, none⟩), .int .u64 150] 58)).alloc (.cells #[.pointer (some ⟨5, 34, none⟩), .pointer (some ⟨w.heap.size, 0, none⟩), .int .u64 150] 58)) (alloc_cell (alloc_cell (box0 rfl)))
  have st := rl_set t ⟨w.heap.size + 1 + 1 + 1, 0, none⟩ e old ((((w.alloc (.cells #[.pointer (some t)] 34)).alloc (.cells #[.pointer (some ⟨5, 34, none⟩), .pointer (some ⟨w.heap.size, 0, none⟩), .int .u64 150] 58)).alloc (.cells #[.pointer (some ⟨5, 34, none⟩), .pointer (some ⟨w.heap.size, 0, none⟩), .int .u64 150] 58)).alloc (.cells #[.pointer (some e)] 32))
    (box_cell (by simp) rfl) (alloc_cell (alloc_cell (alloc_cell (alloc_cell ht0))))
    (by rw [World.frozen?_alloc_old _ _ t (by simp; omega), World.frozen?_alloc_old _ _ t (by simp; omega), World.frozen?_alloc_old _ _ t (by simp; omega), World.frozen?_alloc_old _ _ t (Nat.ne_of_lt htl)]; exact hf0)
  go_enter Tryz.func9, Tryz.ntmps9
  go_wp2
  refine wp_loop_rounds 1 ?_
  rw [rounds_succ]
  go_wp2
  go_ret
  exact ⟨rfl, rfl⟩
end Go.Proofs.YtlnkeebfaninfaaGreatDoor
