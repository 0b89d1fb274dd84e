import Derived.Test.YtnhbjhdkpbhioaaGreatDoorG6
import Derived.Test.YtnhbjhdkpbhioaaGreatDoorG9
import Derived.Deep.LoopGhost
namespace Go.Proofs.YtnhbjhdkpbhioaaGreatDoor
open Go.RowKit Go.Extern.Stop Go.Stop Go.Extern
def Chain (w : World) (e : Int) : List (List UInt8 × Int) → Value → Prop
  | [], v => v = .iface 118 (.int .i64 e)
  | p :: r, v => ∃ B v', v = .iface 133 (.pointer (some ⟨B, 0, none⟩)) ∧ w.cell? ⟨B, 0, none⟩ = some (.string (baL p.1)) ∧ w.cell? ⟨B, 1, none⟩ = some (.int .i64 p.2) ∧ w.cell? ⟨B, 2, none⟩ = some v' ∧ Chain w e r v'
theorem Chain.next {w w' : World} {e : Int} (hb : Below w.heap.size w w') : ∀ {ps : List (List UInt8 × Int)} {v : Value}, Chain w e ps v → Chain w' e ps v
  | [], _, h => h
  | _ :: _, _, ⟨B, v', h1, h2, h3, h4, h5⟩ => ⟨B, v', h1, keep_cell hb h2, keep_cell hb h3, keep_cell hb h4, Chain.next hb h5⟩
theorem unwrap_v (B : Nat) (v : Value) (w : World) (h1 : w.cell? ⟨B, 2, none⟩ = some v) :
    Calls Tryz.prog 204 #[.pointer (some ⟨B, 0, none⟩)] w fun e w' => e = .returned v ∧ w' = w := by
  go_enter Tryz.func204, Tryz.ntmps204
  go_wp2
  go_ret
  exact ⟨rfl, rfl⟩
theorem rn_value2 (t : Addr) (w : World) : (ReflectliteValue.unpack (.iface 190 (.pointer (some t)))).run Tryz.prog w
    = .ok (.agg #[.pointer (some ⟨5, 190, none⟩), .pointer (some ⟨w.heap.size, 0, none⟩), .int .u64 150]) (w.alloc (.cells #[.pointer (some t)] 190)) := by kernel_rfl
theorem rn_value1 (n : Int) (w : World) : (ReflectliteValue.unpack (.iface 118 (.int .i64 n))).run Tryz.prog w
    = .ok (.agg #[.pointer (some ⟨5, 118, none⟩), .pointer (some ⟨w.heap.size, 0, none⟩), .int .u64 130]) (w.alloc (.cells #[.int .i64 n] 118)) := by kernel_rfl
theorem rn_type2 (a : Addr) (w : World) : (ReflectliteValue.methodAny (ReflectliteValue.valueError "reflectlite.Value.Type" 0) (fun t _ _ _ => ReflectliteType.toType t) #[.agg #[.pointer (some ⟨5, 190, none⟩), .pointer (some a), .int .u64 150]]).run Tryz.prog w
    = .ok (.iface 230 (.agg #[.pointer (some ⟨5, 190, none⟩)])) w := by kernel_rfl
theorem rn_kind2 (w : World) : ((ReflectliteType.abiMethod fun t => (fun a : Nat => Value.int IntKind.u8 (a : Int)) <$> Rtype.kind t) #[.pointer (some ⟨5, 190, none⟩)]).run Tryz.prog w = .ok (.int .u8 22) w := by kernel_rfl
theorem rn_kind1 (w : World) : ((ReflectliteType.abiMethod fun t => (fun a : Nat => Value.int IntKind.u8 (a : Int)) <$> Rtype.kind t) #[.pointer (some ⟨5, 118, none⟩)]).run Tryz.prog w = .ok (.int .u8 2) w := by kernel_rfl
theorem rn_elem2 (w : World) : (ReflectliteType.method ReflectliteType.elem #[.agg #[.pointer (some ⟨5, 190, none⟩)]]).run Tryz.prog w = .ok (.iface 230 (.agg #[.pointer (some ⟨5, 118, none⟩)])) w := by kernel_rfl
theorem rn_impl1 (w : World) : (ReflectliteType.relation "Implements" ReflectliteType.implements_ #[.agg #[.pointer (some ⟨5, 118, none⟩)], .iface 230 (.agg #[.pointer (some ⟨5, 38, none⟩)])]).run Tryz.prog w = .ok (.bool true) w := by kernel_rfl
theorem rn_assignFE (w : World) : (ReflectliteType.relation "AssignableTo" ReflectliteType.assignableTo #[.agg #[.pointer (some ⟨5, 133, none⟩)], .iface 230 (.agg #[.pointer (some ⟨5, 118, none⟩)])]).run Tryz.prog w = .ok (.bool false) w := by kernel_rfl
theorem rn_assignEE (w : World) : (ReflectliteType.relation "AssignableTo" ReflectliteType.assignableTo #[.agg #[.pointer (some ⟨5, 118, none⟩)], .iface 230 (.agg #[.pointer (some ⟨5, 118, none⟩)])]).run Tryz.prog w = .ok (.bool true) w := by kernel_rfl
theorem rn_assignEF (w : World) : (ReflectliteType.relation "AssignableTo" ReflectliteType.assignableTo #[.agg #[.pointer (some ⟨5, 118, none⟩)], .iface 230 (.agg #[.pointer (some ⟨5, 133, none⟩)])]).run Tryz.prog w = .ok (.bool false) w := by kernel_rfl
theorem rn_elemOf (w : World) : (Rtype.elem? 190).run Tryz.prog w = .ok (some 118) w := by kernel_rfl
theorem rn_mk (p : Addr) (w : World) : (ReflectliteValue.mk 118 p ReflectliteValue.flagAddr).run Tryz.prog w = .ok (.agg #[.pointer (some ⟨5, 118, none⟩), .pointer (some p), .int .u64 386]) w := by kernel_rfl
theorem rn_parts2 (a : Addr) (w : World) : (ReflectliteValue.parts (.agg #[.pointer (some ⟨5, 190, none⟩), .pointer (some a), .int .u64 150])).run Tryz.prog w = .ok (some (190, a, 150)) w := by kernel_rfl
theorem rn_parts1a (a : Addr) (w : World) : (ReflectliteValue.parts (.agg #[.pointer (some ⟨5, 118, none⟩), .pointer (some a), .int .u64 386])).run Tryz.prog w = .ok (some (118, a, 386)) w := by kernel_rfl
theorem rn_parts1 (a : Addr) (w : World) : (ReflectliteValue.parts (.agg #[.pointer (some ⟨5, 118, none⟩), .pointer (some a), .int .u64 130])).run Tryz.prog w = .ok (some (118, a, 130)) w := by kernel_rfl
theorem rn_direct (w : World) : (Rtype.directlyAssignable 118 118).run Tryz.prog w = .ok true w := by kernel_rfl
theorem rn_isNil (a p : Addr) (W : World) (ha : W.cell? a = some (.pointer (some p))) :
    (ReflectliteValue.method (ReflectliteValue.valueError "reflectlite.Value.IsNil" 0) ReflectliteValue.isNil #[.agg #[.pointer (some ⟨5, 190, none⟩), .pointer (some a), .int .u64 150]]).run Tryz.prog W = .ok (.bool false) W := by
  rw [show ReflectliteValue.method (ReflectliteValue.valueError "reflectlite.Value.IsNil" 0) ReflectliteValue.isNil #[.agg #[.pointer (some ⟨5, 190, none⟩), .pointer (some a), .int .u64 150]] = (ReflectliteValue.parts (.agg #[.pointer (some ⟨5, 190, none⟩), .pointer (some a), .int .u64 150]) >>= _) from rfl]
  simp [rn_parts2, ReflectliteValue.isNil, loadVar, isAgg, underlying, Tryz.underlying190, ha, Result.andThen]
theorem rn_elemV (a p : Addr) (W : World) (ha : W.cell? a = some (.pointer (some p))) :
    (ReflectliteValue.method (ReflectliteValue.valueError "reflectlite.Value.Elem" 0) ReflectliteValue.elem #[.agg #[.pointer (some ⟨5, 190, none⟩), .pointer (some a), .int .u64 150]]).run Tryz.prog W
      = .ok (.agg #[.pointer (some ⟨5, 118, none⟩), .pointer (some p), .int .u64 386]) W := by
  rw [show ReflectliteValue.method (ReflectliteValue.valueError "reflectlite.Value.Elem" 0) ReflectliteValue.elem #[.agg #[.pointer (some ⟨5, 190, none⟩), .pointer (some a), .int .u64 150]] = (ReflectliteValue.parts (.agg #[.pointer (some ⟨5, 190, none⟩), .pointer (some a), .int .u64 150]) >>= _) from rfl]
  simp [rn_parts2, ReflectliteValue.elem, loadVar, isAgg, underlying, Tryz.underlying190, ha, Result.andThen, rn_elemOf, rn_mk]
theorem rn_set (ta b : Addr) (e : Int) (old : Value) (W : World) (hb : W.cell? b = some (.int .i64 e)) (ht : W.cell? ta = some old) (hf : W.frozen? ta = false) :
    (ReflectliteValue.set #[.agg #[.pointer (some ⟨5, 118, none⟩), .pointer (some ta), .int .u64 386], .agg #[.pointer (some ⟨5, 118, none⟩), .pointer (some b), .int .u64 130]]).run Tryz.prog W
      = .ok (.tuple #[]) (W.setCell ta (.int .i64 e)) := by
  rw [show ReflectliteValue.set #[.agg #[.pointer (some ⟨5, 118, none⟩), .pointer (some ta), .int .u64 386], .agg #[.pointer (some ⟨5, 118, none⟩), .pointer (some b), .int .u64 130]] = (ReflectliteValue.parts (.agg #[.pointer (some ⟨5, 118, none⟩), .pointer (some ta), .int .u64 386]) >>= fun p => ReflectliteValue.parts (.agg #[.pointer (some ⟨5, 118, none⟩), .pointer (some b), .int .u64 130]) >>= _) from rfl]
  simp [rn_parts1a, rn_parts1, ReflectliteValue.flagAddr, loadVar, isAgg, underlying, Tryz.underlying118, hb, Result.andThen, rn_direct, storeVar, Value.cells, storeCells, Addr.add]
  rw [run_store Tryz.prog W ta _ _ (by rfl)]
  simp [ht, hf]
theorem no_as (v : Value) (xT : TypeId) (w : World) : (Instr.typeAssert (.iface 133 v) xT 242 true).run Tryz.prog w = .ok (.tuple #[.nilIface, .bool false]) w := run_typeAssert_lacksB Tryz.underlying242 (by kernel_rfl) (by kernel_rfl) v xT w
theorem no_asE (v : Value) (xT : TypeId) (w : World) : (Instr.typeAssert (.iface 118 v) xT 242 true).run Tryz.prog w = .ok (.tuple #[.nilIface, .bool false]) w := run_typeAssert_lacksB Tryz.underlying242 (by kernel_rfl) (by kernel_rfl) v xT w
theorem no_unE (v : Value) (xT : TypeId) (w : World) : (Instr.typeAssert (.iface 118 v) xT 235 true).run Tryz.prog w = .ok (.tuple #[.nilIface, .bool false]) w := run_typeAssert_lacksB Tryz.underlying235 (by kernel_rfl) (by kernel_rfl) v xT w
theorem no_unsE (v : Value) (xT : TypeId) (w : World) : (Instr.typeAssert (.iface 118 v) xT 237 true).run Tryz.prog w = .ok (.tuple #[.nilIface, .bool false]) w := run_typeAssert_lacksB Tryz.underlying237 (by kernel_rfl) (by kernel_rfl) v xT w
end Go.Proofs.YtnhbjhdkpbhioaaGreatDoor
namespace Go.Proofs.YtnhbjhdkpbhioaaGreatDoor
open Go.RowKit Go.Extern.Stop Go.Stop Go.Extern
theorem Chain.iface {w : World} {n : Int} : ∀ {ps : List (List UInt8 × Int)} {v : Value}, Chain w n ps v → ∃ ty y, v = .iface ty y
  | [], _, h => ⟨_, _, h⟩
  | _ :: _, _, ⟨_, _, h, _⟩ => ⟨_, _, h⟩
structure AsR (t : Addr) (v : Value) (w w' : World) (e : Ending) : Prop where
  ret : e = .returned (.bool true)
  cell : w'.cell? t = some v
  bel : Below t.block w w'
set_option maxHeartbeats 4000000 in
set_option maxRecDepth 4000 in
theorem asl_num (n : Int) (ps : List (List UInt8 × Int)) (v : Value) (t a : Addr) (old : Value) (w : World) (hC : Chain w n ps v) (ha : w.cell? a = some (.pointer (some t))) (ht0 : w.cell? t = some old) (hf0 : w.frozen? t = false) :
    Calls Tryz.prog 98 #[v, .iface 190 (.pointer (some t)), .agg #[.pointer (some ⟨5, 190, none⟩), .pointer (some a), .int .u64 150], .iface 230 (.agg #[.pointer (some ⟨5, 118, none⟩)])] w fun e w' => AsR t (.int .i64 n) w w' e := by
  have h6 := @run_callFunc_extern Tryz.prog 95 _ (fun args => ReflectliteValue.unpack (args.getD 0 (.tuple #[]))) Tryz.func95 (by kernel_rfl) (by kernel_rfl) (by kernel_rfl) (by kernel_rfl)
  have h10 := @run_callFunc_extern Tryz.prog 93 _ ReflectliteType.typeOf Tryz.func93 (by kernel_rfl) (by kernel_rfl) (by kernel_rfl) (by kernel_rfl)
  have h35 := @run_callFunc_extern Tryz.prog 210 _ (ReflectliteType.relation "AssignableTo" ReflectliteType.assignableTo) Tryz.func210 (by kernel_rfl) (by kernel_rfl) (by kernel_rfl) (by kernel_rfl)
  have h11 := @run_callFunc_extern Tryz.prog 121 _ (ReflectliteValue.method (ReflectliteValue.valueError "reflectlite.Value.Elem" 0) ReflectliteValue.elem) Tryz.func121 (by kernel_rfl) (by kernel_rfl) (by kernel_rfl) (by kernel_rfl)
  have h12 := @run_callFunc_extern Tryz.prog 122 _ ReflectliteValue.set Tryz.func122 (by kernel_rfl) (by kernel_rfl) (by kernel_rfl) (by kernel_rfl)
  have tF := rl_typeOf1
  have tE := rl_typeOfE
  have mA := rl_mAssign
  have a1 := rn_assignFE
  have a2 := rn_assignEE
  have nA := no_as
  have hU := has_unwrap
  have mU := m_unwrap
  have v1 := rn_value1 n
  have htl : t.block < w.heap.size := World.block_lt_of_cell? w t ht0
  obtain ⟨W, HW⟩ : ∃ W, Hid (w.alloc (.cells #[.pointer (some ⟨5, 190, none⟩), .pointer (some a), .int .u64 150] 198) = W) := ⟨_, rfl⟩
  have hbx : Below w.heap.size w W := by rw [← HW.out]; exact alloc_below _ _
  have hc0 : W.cell? ⟨w.heap.size, 0, none⟩ = some (.pointer (some ⟨5, 190, none⟩)) := by rw [← HW.out]; exact box0 rfl
  have hc1 : W.cell? ⟨w.heap.size, 1, none⟩ = some (.pointer (some a)) := by rw [← HW.out]; exact box0 rfl
  have hc2 : W.cell? ⟨w.heap.size, 2, none⟩ = some (.int .u64 150) := by rw [← HW.out]; exact box0 rfl
  have el := rn_elemV a t W (keep_cell hbx ha)
  have htW := keep_cell hbx ht0
  have hWs : W.heap.size = w.heap.size + 1 := by rw [← HW.out]; simp
  have st := rn_set t ⟨w.heap.size + 1, 0, none⟩ n old (W.alloc (.cells #[.int .i64 n] 118)) (by rw [← hWs]; exact box0 rfl) (alloc_cell htW)
    (by rw [World.frozen?_alloc_old _ _ t (by simp; omega), hbx.frozen (p := t) htl]; exact hf0)
  have HCW : Hid (Chain W n ps v) := hC.next hbx
  have HFin : Hid (AsR t (.int .i64 n) w ((W.alloc (.cells #[.int .i64 n] 118)).setCell t (.int .i64 n)) (.returned (.bool true))) := by
    refine ⟨rfl, World.cell?_setCell_same _ _ _ (alloc_cell htW), ?_⟩
    exact ((hbx.mono (Nat.le_of_lt htl)).trans ((Below.refl _ _).alloc (by omega) _)).setCell (p := t) (Nat.le_refl _) _
  clear hC ha ht0 hf0 htW hbx
  obtain ⟨g, Hg⟩ : ∃ g, Hid (ps.length = g) := ⟨_, rfl⟩
  go_enter Tryz.func98, Tryz.ntmps98
  go_wp2
  rw [HW.out]
  go_loopg [0] g (fun gk v wr => wr = W ∧ ∃ ps, Hid (ps.length = gk) ∧ Hid (Chain W n ps v))
  case atStart => exact ⟨rfl, ps, Hg, HCW⟩
  case round =>
    obtain ⟨rfl, ps, HL, HC⟩ := hrel
    clear HCW Hg
    cases ps with
    | nil =>
      have hv : u0 = .iface 118 (.int .i64 n) := HC.out
      subst hv
      clear HC HL
      go_wp2
      go_ret
      exact HFin.out
    | cons p r =>
      obtain ⟨B, v', rfl, h0, h1, h2, h3⟩ := HC.out
      have HC2 : Hid (Chain wr n r v') := h3
      obtain ⟨ty, y, rfl⟩ := h3.iface
      clear h0 h1 h3 HC
      go_wp2_with fail
      refine (unwrap_v B _ _ h2).mono ?_
      rintro e w1 ⟨rfl, rfl⟩
      go_wp2
      go_roundg r.length
      case rel => exact ⟨rfl, r, rfl, HC2⟩
      case measure => rw [← HL.out]; simp
end Go.Proofs.YtnhbjhdkpbhioaaGreatDoor
namespace Go.Proofs.YtnhbjhdkpbhioaaGreatDoor
open Go.RowKit Go.Extern.Stop Go.Stop Go.Extern
set_option maxHeartbeats 4000000 in
set_option maxRecDepth 4000 in
theorem asl_ef (n : Int) (t a : Addr) (w : World) :
    Calls Tryz.prog 98 #[.iface 118 (.int .i64 n), .iface 135 (.pointer (some t)), .agg #[.pointer (some ⟨5, 135, none⟩), .pointer (some a), .int .u64 150], .iface 230 (.agg #[.pointer (some ⟨5, 133, none⟩)])] w fun e w' => e = .returned (.bool false) ∧ Below w.heap.size w w' := by
  have h10 := @run_callFunc_extern Tryz.prog 93 _ ReflectliteType.typeOf Tryz.func93 (by kernel_rfl) (by kernel_rfl) (by kernel_rfl) (by kernel_rfl)
  have h35 := @run_callFunc_extern Tryz.prog 210 _ (ReflectliteType.relation "AssignableTo" ReflectliteType.assignableTo) Tryz.func210 (by kernel_rfl) (by kernel_rfl) (by kernel_rfl) (by kernel_rfl)
  have tE := rl_typeOfE
  have mA := rl_mAssign
  have a1 := rn_assignEF
  have nA := no_asE
  have nU := no_unE
  have nV := no_unsE
  go_enter Tryz.func98, Tryz.ntmps98
  go_wp2
  refine wp_loop_rounds 1 ?_
  rw [rounds_succ]
  go_wp2
  go_ret
  exact ⟨rfl, alloc_below _ _⟩
set_option maxHeartbeats 4000000 in
set_option maxRecDepth 4000 in
theorem as_ef (n : Int) (t : Addr) (w : World) (hg : ErrW w)  :
    Calls Tryz.prog 55 #[.iface 118 (.int .i64 n), .iface 135 (.pointer (some t))] w fun e w' => e = .returned (.bool false) ∧ Below w.heap.size w w' := by
  unfold ErrW at hg
  have h6 := @run_callFunc_extern Tryz.prog 95 _ (fun args => ReflectliteValue.unpack (args.getD 0 (.tuple #[]))) Tryz.func95 (by kernel_rfl) (by kernel_rfl) (by kernel_rfl) (by kernel_rfl)
  have h7 := @run_callFunc_extern Tryz.prog 96 _ (ReflectliteValue.methodAny (ReflectliteValue.valueError "reflectlite.Value.Type" 0) (fun t _ _ _ => ReflectliteType.toType t)) Tryz.func96 (by kernel_rfl) (by kernel_rfl) (by kernel_rfl) (by kernel_rfl)
  have h8 := @run_callFunc_extern Tryz.prog 97 _ (ReflectliteValue.method (ReflectliteValue.valueError "reflectlite.Value.IsNil" 0) ReflectliteValue.isNil) Tryz.func97 (by kernel_rfl) (by kernel_rfl) (by kernel_rfl) (by kernel_rfl)
  have h27 := @run_callFunc_extern Tryz.prog 200 _ (ReflectliteType.abiMethod fun t => do pure (.int .u8 (← Rtype.kind t))) Tryz.func200 (by kernel_rfl) (by kernel_rfl) (by kernel_rfl) (by kernel_rfl)
  have h37 := @run_callFunc_extern Tryz.prog 212 _ (ReflectliteType.method ReflectliteType.elem) Tryz.func212 (by kernel_rfl) (by kernel_rfl) (by kernel_rfl) (by kernel_rfl)
  have h38 := @run_callFunc_extern Tryz.prog 213 _ (ReflectliteType.relation "Implements" ReflectliteType.implements_) Tryz.func213 (by kernel_rfl) (by kernel_rfl) (by kernel_rfl) (by kernel_rfl)
  have f6 := rl_value2
  have f7 := rl_type2
  have mK := rl_mKind
  have mE := rl_mElem
  have mI := rl_mImpl
  have k2 := rl_kind2
  have k1 := rl_kind1
  have e2 := rl_elem2
  have i1 := rl_impl1
  have n8 := rl_isNil ⟨w.heap.size, 0, none⟩ t ((w.alloc (.cells #[.pointer (some t)] 135)).alloc (.cells #[.pointer (some ⟨5, 135, none⟩), .pointer (some ⟨w.heap.size, 0, none⟩), .int .u64 150] 198)) (alloc_cell (box0 rfl))
  have hg2 : ((w.alloc (.cells #[.pointer (some t)] 135)).alloc (.cells #[.pointer (some ⟨5, 135, none⟩), .pointer (some ⟨w.heap.size, 0, none⟩), .int .u64 150] 198)).cell? ⟨0, 0, none⟩ = some (.iface 230 (.agg #[.pointer (some ⟨5, 38, none⟩)])) := alloc_cell (alloc_cell hg)
  go_enter Tryz.func55, Tryz.ntmps55
  go_wp2_with (go_at_call 98; refine (asl_ef n t ⟨w.heap.size, 0, none⟩ _).mono ?_; rintro e w1 ⟨rfl, hb⟩)
  go_ret
  exact ⟨rfl, next_trans (next_trans (alloc_below _ _) (alloc_below _ _)) hb⟩
set_option maxHeartbeats 4000000 in
set_option maxRecDepth 4000 in
theorem as_num (n : Int) (ps : List (List UInt8 × Int)) (v old : Value) (t : Addr) (w : World) (hg : ErrW w) (hC : Chain w n ps v) (ht0 : w.cell? t = some old) (hf0 : w.frozen? t = false) :
    Calls Tryz.prog 55 #[v, .iface 190 (.pointer (some t))] w fun e w' => AsR t (.int .i64 n) w w' e := by
  unfold ErrW at hg
  have h6 := @run_callFunc_extern Tryz.prog 95 _ (fun args => ReflectliteValue.unpack (args.getD 0 (.tuple #[]))) Tryz.func95 (by kernel_rfl) (by kernel_rfl) (by kernel_rfl) (by kernel_rfl)
  have h7 := @run_callFunc_extern Tryz.prog 96 _ (ReflectliteValue.methodAny (ReflectliteValue.valueError "reflectlite.Value.Type" 0) (fun t _ _ _ => ReflectliteType.toType t)) Tryz.func96 (by kernel_rfl) (by kernel_rfl) (by kernel_rfl) (by kernel_rfl)
  have h8 := @run_callFunc_extern Tryz.prog 97 _ (ReflectliteValue.method (ReflectliteValue.valueError "reflectlite.Value.IsNil" 0) ReflectliteValue.isNil) Tryz.func97 (by kernel_rfl) (by kernel_rfl) (by kernel_rfl) (by kernel_rfl)
  have h27 := @run_callFunc_extern Tryz.prog 200 _ (ReflectliteType.abiMethod fun t => do pure (.int .u8 (← Rtype.kind t))) Tryz.func200 (by kernel_rfl) (by kernel_rfl) (by kernel_rfl) (by kernel_rfl)
  have h37 := @run_callFunc_extern Tryz.prog 212 _ (ReflectliteType.method ReflectliteType.elem) Tryz.func212 (by kernel_rfl) (by kernel_rfl) (by kernel_rfl) (by kernel_rfl)
  have h38 := @run_callFunc_extern Tryz.prog 213 _ (ReflectliteType.relation "Implements" ReflectliteType.implements_) Tryz.func213 (by kernel_rfl) (by kernel_rfl) (by kernel_rfl) (by kernel_rfl)
  have f6 := rn_value2
  have f7 := rn_type2
  have mK := rl_mKind
  have mE := rl_mElem
  have mI := rl_mImpl
  have k2 := rn_kind2
  have k1 := rn_kind1
  have e2 := rn_elem2
  have i1 := rn_impl1
  have n8 := rn_isNil ⟨w.heap.size, 0, none⟩ t ((w.alloc (.cells #[.pointer (some t)] 190)).alloc (.cells #[.pointer (some ⟨5, 190, none⟩), .pointer (some ⟨w.heap.size, 0, none⟩), .int .u64 150] 198)) (alloc_cell (box0 rfl))
  have hg2 : ((w.alloc (.cells #[.pointer (some t)] 190)).alloc (.cells #[.pointer (some ⟨5, 190, none⟩), .pointer (some ⟨w.heap.size, 0, none⟩), .int .u64 150] 198)).cell? ⟨0, 0, none⟩ = some (.iface 230 (.agg #[.pointer (some ⟨5, 38, none⟩)])) := alloc_cell (alloc_cell hg)
  obtain ⟨ty, y, rfl⟩ := hC.iface
  have htl : t.block < w.heap.size := World.block_lt_of_cell? w t ht0
  have HA : Hid (Calls Tryz.prog 98 #[.iface ty y, .iface 190 (.pointer (some t)), .agg #[.pointer (some ⟨5, 190, none⟩), .pointer (some ⟨w.heap.size, 0, none⟩), .int .u64 150], .iface 230 (.agg #[.pointer (some ⟨5, 118, none⟩)])] ((w.alloc (.cells #[.pointer (some t)] 190)).alloc (.cells #[.pointer (some ⟨5, 190, none⟩), .pointer (some ⟨w.heap.size, 0, none⟩), .int .u64 150] 198)) fun e w' => AsR t (.int .i64 n) w w' e) := by
    refine (asl_num n ps (.iface ty y) t ⟨w.heap.size, 0, none⟩ old _ (hC.next (next_trans (alloc_below _ _) (alloc_below _ _))) (alloc_cell (box0 rfl)) (alloc_cell (alloc_cell ht0)) (by rw [World.frozen?_alloc_old _ _ t (by simp; omega), World.frozen?_alloc_old _ _ t (Nat.ne_of_lt htl)]; exact hf0)).mono ?_
    intro e w' h
    exact ⟨h.ret, h.cell, ((next_trans (alloc_below _ _) (alloc_below _ _)).mono (Nat.le_of_lt htl)).trans h.bel⟩
  clear hC ht0 hf0
  go_enter Tryz.func55, Tryz.ntmps55
  go_wp2_with (go_at_call 98; refine HA.out.mono ?_; rintro e w1 ⟨rfl, hc, hb⟩; have HR : Hid (AsR t (.int .i64 n) w w1 (.returned (.bool true))) := ⟨rfl, hc, hb⟩; clear hc hb)
  go_ret
  exact HR.out
set_option maxHeartbeats 4000000 in
set_option maxRecDepth 4000 in
theorem isl_any (n : Int) (ps : List (List UInt8 × Int)) (v : Value) (w : World) (hC : Chain w n ps v) :
    Calls Tryz.prog 94 #[v, .iface 118 (.int .i64 n), .bool true] w fun e w' => e = .returned (.bool true) ∧ w' = w := by
  have nI := no_is
  have hU := has_unwrap
  have mU := m_unwrap
  have hty := fun B => run_eql_iface_types (P := Tryz.prog) 133 118 (.pointer (some ⟨B, 0, none⟩)) (.int .i64 n) Tryz.underlying38 (by decide) w
  have heq : (binOp .eql 38 (.iface 118 (.int .i64 n)) (.iface 118 (.int .i64 n))).run Tryz.prog w = .ok (.bool true) w := by
    rw [Lib.run_eql_iface_int w n n Tryz.underlying38 comp_errno Tryz.underlying118]; simp
  have HCW : Hid (Chain w n ps v) := hC
  obtain ⟨g, Hg⟩ : ∃ g, Hid (ps.length = g) := ⟨_, rfl⟩
  obtain ⟨W, HW⟩ : ∃ W, Hid (w = W) := ⟨_, rfl⟩
  rw [HW.out] at hty heq HCW ⊢
  clear hC
  go_enter Tryz.func94, Tryz.ntmps94
  go_wp2
  go_loopg [0] g (fun gk v wr => wr = W ∧ ∃ ps, Hid (ps.length = gk) ∧ Hid (Chain W n ps v))
  case atStart => exact ⟨rfl, ps, Hg, HCW⟩
  case round =>
    obtain ⟨rfl, ps, HL, HC⟩ := hrel
    clear HCW Hg HW
    cases ps with
    | nil =>
      have hv : u0 = .iface 118 (.int .i64 n) := HC.out
      subst hv
      clear HC HL
      go_wp2
      go_ret
      exact ⟨rfl, rfl⟩
    | cons p r =>
      obtain ⟨B, v', rfl, h0, h1, h2, h3⟩ := HC.out
      have HC2 : Hid (Chain wr n r v') := h3
      obtain ⟨ty, y, rfl⟩ := h3.iface
      have hty2 := hty B
      clear h0 h1 h3 HC hty
      go_wp2_with fail
      refine (unwrap_v B _ _ h2).mono ?_
      rintro e w1 ⟨rfl, rfl⟩
      go_wp2
      go_roundg r.length
      case rel => exact ⟨rfl, r, rfl, HC2⟩
      case measure => rw [← HL.out]; simp
set_option maxHeartbeats 4000000 in
set_option maxRecDepth 4000 in
theorem is_any5 (n : Int) (ps : List (List UInt8 × Int)) (v : Value) (w : World) (hC : Chain w n ps v) :
    Calls Tryz.prog 54 #[v, .iface 118 (.int .i64 n)] w fun e w' => e = .returned (.bool true) ∧ w' = w := by
  have h10 := @run_callFunc_extern Tryz.prog 93 _ ReflectliteType.typeOf Tryz.func93 (by kernel_rfl) (by kernel_rfl) (by kernel_rfl) (by kernel_rfl)
  have h32 := @run_callFunc_extern Tryz.prog 211 _ (ReflectliteType.method fun t => do Rtype.noPackHeld "Comparable" t; pure (.bool (← typeInfo t).comparable)) Tryz.func211 (by kernel_rfl) (by kernel_rfl) (by kernel_rfl) (by kernel_rfl)
  have tT := rl_typeOfE
  have cT := rl_compE
  have mR := rl_mComp
  obtain ⟨ty, y, rfl⟩ := hC.iface
  have HI := isl_any n ps _ w hC
  have HI' : Hid (Calls Tryz.prog 94 #[.iface ty y, .iface 118 (.int .i64 n), .bool true] w fun e w' => e = .returned (.bool true) ∧ w' = w) := HI
  clear hC HI
  go_enter Tryz.func54, Tryz.ntmps54
  go_wp2_with (go_at_call 94; refine HI'.out.mono ?_; rintro e w1 ⟨rfl, rfl⟩)
  go_ret
  exact ⟨rfl, rfl⟩
end Go.Proofs.YtnhbjhdkpbhioaaGreatDoor
