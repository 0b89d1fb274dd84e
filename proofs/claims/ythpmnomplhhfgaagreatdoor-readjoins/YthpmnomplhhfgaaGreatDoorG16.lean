/- errors.As and errors.Is at chains, and at errors that hold no Errno. -/
import Derived.Test.YthpmnomplhhfgaaGreatDoorG15
namespace Go.Proofs.YthpmnomplhhfgaaGreatDoor
open Go.RowKit Go.Extern.Stop Go.Stop Go.Extern

set_option maxHeartbeats 4000000 in
set_option maxRecDepth 4000 in
theorem asl_ef (n : Int) (t a : Addr) (w : World) :
    Calls Tryz.prog 63 #[.iface 58 (.int .i64 n), .iface 89 (.pointer (some t)), .agg #[.pointer (some ⟨5, 89, none⟩), .pointer (some a), .int .u64 150], .iface 154 (.agg #[.pointer (some ⟨5, 59, none⟩)])] w fun e w' => e = .returned (.bool false) ∧ Below w.heap.size w w' := by
  have h10 := @run_callFunc_extern Tryz.prog 58 _ ReflectliteType.typeOf Tryz.func58 (by kernel_rfl) (by kernel_rfl) (by kernel_rfl) (by kernel_rfl)
  have h35 := @run_callFunc_extern Tryz.prog 163 _ (ReflectliteType.relation "AssignableTo" ReflectliteType.assignableTo) Tryz.func163 (by kernel_rfl) (by kernel_rfl) (by kernel_rfl) (by kernel_rfl)
  have tE := rl_typeOfE
  have mA := rl_mAssign
  have a1 := rn_assignEF
  have nA := no_asE
  have nU := no_unE
  have nV := no_unsE
  go_enter Tryz.func63, Tryz.ntmps63
  go_wp2
  refine wp_loop_rounds 1 ?_
  rw [rounds_succ]
  go_wp2
  go_ret
  exact ⟨rfl, alloc_below _ _⟩
set_option maxHeartbeats 4000000 in
set_option maxRecDepth 4000 in
theorem asl_sf (p : Option Addr) (t a : Addr) (w : World) :
    Calls Tryz.prog 63 #[.iface 107 (.pointer p), .iface 89 (.pointer (some t)), .agg #[.pointer (some ⟨5, 89, none⟩), .pointer (some a), .int .u64 150], .iface 154 (.agg #[.pointer (some ⟨5, 59, none⟩)])] w fun e w' => e = .returned (.bool false) ∧ Below w.heap.size w w' := by
  have h10 := @run_callFunc_extern Tryz.prog 58 _ ReflectliteType.typeOf Tryz.func58 (by kernel_rfl) (by kernel_rfl) (by kernel_rfl) (by kernel_rfl)
  have h35 := @run_callFunc_extern Tryz.prog 163 _ (ReflectliteType.relation "AssignableTo" ReflectliteType.assignableTo) Tryz.func163 (by kernel_rfl) (by kernel_rfl) (by kernel_rfl) (by kernel_rfl)
  have tE := rn_typeOfS
  have mA := rl_mAssign
  have a1 := rn_assignSF
  have nA := no_asS
  have nU := no_unS
  have nV := no_unsS
  go_enter Tryz.func63, Tryz.ntmps63
  go_wp2
  refine wp_loop_rounds 1 ?_
  rw [rounds_succ]
  go_wp2
  go_ret
  exact ⟨rfl, alloc_below _ _⟩
set_option maxHeartbeats 4000000 in
set_option maxRecDepth 4000 in
theorem asl_se (p : Option Addr) (t a : Addr) (w : World) :
    Calls Tryz.prog 63 #[.iface 107 (.pointer p), .iface 110 (.pointer (some t)), .agg #[.pointer (some ⟨5, 110, none⟩), .pointer (some a), .int .u64 150], .iface 154 (.agg #[.pointer (some ⟨5, 58, none⟩)])] w fun e w' => e = .returned (.bool false) ∧ Below w.heap.size w w' := by
  have h10 := @run_callFunc_extern Tryz.prog 58 _ ReflectliteType.typeOf Tryz.func58 (by kernel_rfl) (by kernel_rfl) (by kernel_rfl) (by kernel_rfl)
  have h35 := @run_callFunc_extern Tryz.prog 163 _ (ReflectliteType.relation "AssignableTo" ReflectliteType.assignableTo) Tryz.func163 (by kernel_rfl) (by kernel_rfl) (by kernel_rfl) (by kernel_rfl)
  have tE := rn_typeOfS
  have mA := rl_mAssign
  have a1 := rn_assignSE
  have nA := no_asS
  have nU := no_unS
  have nV := no_unsS
  go_enter Tryz.func63, Tryz.ntmps63
  go_wp2
  refine wp_loop_rounds 1 ?_
  rw [rounds_succ]
  go_wp2
  go_ret
  exact ⟨rfl, alloc_below _ _⟩
set_option maxHeartbeats 4000000 in
set_option maxRecDepth 4000 in
theorem as_ef (n : Int) (t : Addr) (w : World) (hg : ErrW w)  :
    Calls Tryz.prog 37 #[.iface 58 (.int .i64 n), .iface 89 (.pointer (some t))] w fun e w' => e = .returned (.bool false) ∧ Below w.heap.size w w' := by
  unfold ErrW at hg
  have h6 := @run_callFunc_extern Tryz.prog 60 _ (fun args => ReflectliteValue.unpack (args.getD 0 (.tuple #[]))) Tryz.func60 (by kernel_rfl) (by kernel_rfl) (by kernel_rfl) (by kernel_rfl)
  have h7 := @run_callFunc_extern Tryz.prog 61 _ (ReflectliteValue.methodAny (ReflectliteValue.valueError "reflectlite.Value.Type" 0) (fun t _ _ _ => ReflectliteType.toType t)) Tryz.func61 (by kernel_rfl) (by kernel_rfl) (by kernel_rfl) (by kernel_rfl)
  have h8 := @run_callFunc_extern Tryz.prog 62 _ (ReflectliteValue.method (ReflectliteValue.valueError "reflectlite.Value.IsNil" 0) ReflectliteValue.isNil) Tryz.func62 (by kernel_rfl) (by kernel_rfl) (by kernel_rfl) (by kernel_rfl)
  have h27 := @run_callFunc_extern Tryz.prog 152 _ (ReflectliteType.abiMethod fun t => do pure (.int .u8 (← Rtype.kind t))) Tryz.func152 (by kernel_rfl) (by kernel_rfl) (by kernel_rfl) (by kernel_rfl)
  have h37 := @run_callFunc_extern Tryz.prog 165 _ (ReflectliteType.method ReflectliteType.elem) Tryz.func165 (by kernel_rfl) (by kernel_rfl) (by kernel_rfl) (by kernel_rfl)
  have h38 := @run_callFunc_extern Tryz.prog 166 _ (ReflectliteType.relation "Implements" ReflectliteType.implements_) Tryz.func166 (by kernel_rfl) (by kernel_rfl) (by kernel_rfl) (by kernel_rfl)
  have f6 := rl_value2
  have f7 := rl_type2
  have mK := rl_mKind
  have mE := rl_mElem
  have mI := rl_mImpl
  have k2 := rl_kind2
  have k1 := rl_kind1
  have e2 := rl_elem2
  have i1 := rl_impl1
  have n8 := rl_isNil ⟨w.heap.size, 0, none⟩ t ((w.alloc (.cells #[.pointer (some t)] 89)).alloc (.cells #[.pointer (some ⟨5, 89, none⟩), .pointer (some ⟨w.heap.size, 0, none⟩), .int .u64 150] 130)) (alloc_cell (box0 rfl))
  have hg2 : ((w.alloc (.cells #[.pointer (some t)] 89)).alloc (.cells #[.pointer (some ⟨5, 89, none⟩), .pointer (some ⟨w.heap.size, 0, none⟩), .int .u64 150] 130)).cell? ⟨0, 0, none⟩ = some (.iface 154 (.agg #[.pointer (some ⟨5, 26, none⟩)])) := alloc_cell (alloc_cell hg)
  go_enter Tryz.func37, Tryz.ntmps37
  go_wp2_with (go_at_call 63; refine (asl_ef n t ⟨w.heap.size, 0, none⟩ _).mono ?_; rintro e w1 ⟨rfl, hb⟩)
  go_ret
  exact ⟨rfl, next_trans (next_trans (alloc_below _ _) (alloc_below _ _)) hb⟩
set_option maxHeartbeats 4000000 in
set_option maxRecDepth 4000 in
theorem as_sf (p : Option Addr) (t : Addr) (w : World) (hg : ErrW w)  :
    Calls Tryz.prog 37 #[.iface 107 (.pointer p), .iface 89 (.pointer (some t))] w fun e w' => e = .returned (.bool false) ∧ Below w.heap.size w w' := by
  unfold ErrW at hg
  have h6 := @run_callFunc_extern Tryz.prog 60 _ (fun args => ReflectliteValue.unpack (args.getD 0 (.tuple #[]))) Tryz.func60 (by kernel_rfl) (by kernel_rfl) (by kernel_rfl) (by kernel_rfl)
  have h7 := @run_callFunc_extern Tryz.prog 61 _ (ReflectliteValue.methodAny (ReflectliteValue.valueError "reflectlite.Value.Type" 0) (fun t _ _ _ => ReflectliteType.toType t)) Tryz.func61 (by kernel_rfl) (by kernel_rfl) (by kernel_rfl) (by kernel_rfl)
  have h8 := @run_callFunc_extern Tryz.prog 62 _ (ReflectliteValue.method (ReflectliteValue.valueError "reflectlite.Value.IsNil" 0) ReflectliteValue.isNil) Tryz.func62 (by kernel_rfl) (by kernel_rfl) (by kernel_rfl) (by kernel_rfl)
  have h27 := @run_callFunc_extern Tryz.prog 152 _ (ReflectliteType.abiMethod fun t => do pure (.int .u8 (← Rtype.kind t))) Tryz.func152 (by kernel_rfl) (by kernel_rfl) (by kernel_rfl) (by kernel_rfl)
  have h37 := @run_callFunc_extern Tryz.prog 165 _ (ReflectliteType.method ReflectliteType.elem) Tryz.func165 (by kernel_rfl) (by kernel_rfl) (by kernel_rfl) (by kernel_rfl)
  have h38 := @run_callFunc_extern Tryz.prog 166 _ (ReflectliteType.relation "Implements" ReflectliteType.implements_) Tryz.func166 (by kernel_rfl) (by kernel_rfl) (by kernel_rfl) (by kernel_rfl)
  have f6 := rl_value2
  have f7 := rl_type2
  have mK := rl_mKind
  have mE := rl_mElem
  have mI := rl_mImpl
  have k2 := rl_kind2
  have k1 := rl_kind1
  have e2 := rl_elem2
  have i1 := rl_impl1
  have n8 := rl_isNil ⟨w.heap.size, 0, none⟩ t ((w.alloc (.cells #[.pointer (some t)] 89)).alloc (.cells #[.pointer (some ⟨5, 89, none⟩), .pointer (some ⟨w.heap.size, 0, none⟩), .int .u64 150] 130)) (alloc_cell (box0 rfl))
  have hg2 : ((w.alloc (.cells #[.pointer (some t)] 89)).alloc (.cells #[.pointer (some ⟨5, 89, none⟩), .pointer (some ⟨w.heap.size, 0, none⟩), .int .u64 150] 130)).cell? ⟨0, 0, none⟩ = some (.iface 154 (.agg #[.pointer (some ⟨5, 26, none⟩)])) := alloc_cell (alloc_cell hg)
  go_enter Tryz.func37, Tryz.ntmps37
  go_wp2_with (go_at_call 63; refine (asl_sf p t ⟨w.heap.size, 0, none⟩ _).mono ?_; rintro e w1 ⟨rfl, hb⟩)
  go_ret
  exact ⟨rfl, next_trans (next_trans (alloc_below _ _) (alloc_below _ _)) hb⟩
set_option maxHeartbeats 4000000 in
set_option maxRecDepth 4000 in
theorem as_se (p : Option Addr) (t : Addr) (w : World) (hg : ErrW w)  :
    Calls Tryz.prog 37 #[.iface 107 (.pointer p), .iface 110 (.pointer (some t))] w fun e w' => e = .returned (.bool false) ∧ Below w.heap.size w w' := by
  unfold ErrW at hg
  have h6 := @run_callFunc_extern Tryz.prog 60 _ (fun args => ReflectliteValue.unpack (args.getD 0 (.tuple #[]))) Tryz.func60 (by kernel_rfl) (by kernel_rfl) (by kernel_rfl) (by kernel_rfl)
  have h7 := @run_callFunc_extern Tryz.prog 61 _ (ReflectliteValue.methodAny (ReflectliteValue.valueError "reflectlite.Value.Type" 0) (fun t _ _ _ => ReflectliteType.toType t)) Tryz.func61 (by kernel_rfl) (by kernel_rfl) (by kernel_rfl) (by kernel_rfl)
  have h8 := @run_callFunc_extern Tryz.prog 62 _ (ReflectliteValue.method (ReflectliteValue.valueError "reflectlite.Value.IsNil" 0) ReflectliteValue.isNil) Tryz.func62 (by kernel_rfl) (by kernel_rfl) (by kernel_rfl) (by kernel_rfl)
  have h27 := @run_callFunc_extern Tryz.prog 152 _ (ReflectliteType.abiMethod fun t => do pure (.int .u8 (← Rtype.kind t))) Tryz.func152 (by kernel_rfl) (by kernel_rfl) (by kernel_rfl) (by kernel_rfl)
  have h37 := @run_callFunc_extern Tryz.prog 165 _ (ReflectliteType.method ReflectliteType.elem) Tryz.func165 (by kernel_rfl) (by kernel_rfl) (by kernel_rfl) (by kernel_rfl)
  have h38 := @run_callFunc_extern Tryz.prog 166 _ (ReflectliteType.relation "Implements" ReflectliteType.implements_) Tryz.func166 (by kernel_rfl) (by kernel_rfl) (by kernel_rfl) (by kernel_rfl)
  have f6 := rn_value2
  have f7 := rn_type2
  have mK := rl_mKind
  have mE := rl_mElem
  have mI := rl_mImpl
  have k2 := rn_kind2
  have k1 := rn_kind1
  have e2 := rn_elem2
  have i1 := rn_impl1
  have n8 := rn_isNil ⟨w.heap.size, 0, none⟩ t ((w.alloc (.cells #[.pointer (some t)] 110)).alloc (.cells #[.pointer (some ⟨5, 110, none⟩), .pointer (some ⟨w.heap.size, 0, none⟩), .int .u64 150] 130)) (alloc_cell (box0 rfl))
  have hg2 : ((w.alloc (.cells #[.pointer (some t)] 110)).alloc (.cells #[.pointer (some ⟨5, 110, none⟩), .pointer (some ⟨w.heap.size, 0, none⟩), .int .u64 150] 130)).cell? ⟨0, 0, none⟩ = some (.iface 154 (.agg #[.pointer (some ⟨5, 26, none⟩)])) := alloc_cell (alloc_cell hg)
  go_enter Tryz.func37, Tryz.ntmps37
  go_wp2_with (go_at_call 63; refine (asl_se p t ⟨w.heap.size, 0, none⟩ _).mono ?_; rintro e w1 ⟨rfl, hb⟩)
  go_ret
  exact ⟨rfl, next_trans (next_trans (alloc_below _ _) (alloc_below _ _)) hb⟩
set_option maxHeartbeats 4000000 in
set_option maxRecDepth 4000 in
theorem as_num (n : Int) (ps : List (List UInt8 × Int)) (v old : Value) (t : Addr) (w : World) (hg : ErrW w) (hC : Chain w n ps v) (ht0 : w.cell? t = some old) (hf0 : w.frozen? t = false) :
    Calls Tryz.prog 37 #[v, .iface 110 (.pointer (some t))] w fun e w' => AsR t (.int .i64 n) w w' e := by
  unfold ErrW at hg
  have h6 := @run_callFunc_extern Tryz.prog 60 _ (fun args => ReflectliteValue.unpack (args.getD 0 (.tuple #[]))) Tryz.func60 (by kernel_rfl) (by kernel_rfl) (by kernel_rfl) (by kernel_rfl)
  have h7 := @run_callFunc_extern Tryz.prog 61 _ (ReflectliteValue.methodAny (ReflectliteValue.valueError "reflectlite.Value.Type" 0) (fun t _ _ _ => ReflectliteType.toType t)) Tryz.func61 (by kernel_rfl) (by kernel_rfl) (by kernel_rfl) (by kernel_rfl)
  have h8 := @run_callFunc_extern Tryz.prog 62 _ (ReflectliteValue.method (ReflectliteValue.valueError "reflectlite.Value.IsNil" 0) ReflectliteValue.isNil) Tryz.func62 (by kernel_rfl) (by kernel_rfl) (by kernel_rfl) (by kernel_rfl)
  have h27 := @run_callFunc_extern Tryz.prog 152 _ (ReflectliteType.abiMethod fun t => do pure (.int .u8 (← Rtype.kind t))) Tryz.func152 (by kernel_rfl) (by kernel_rfl) (by kernel_rfl) (by kernel_rfl)
  have h37 := @run_callFunc_extern Tryz.prog 165 _ (ReflectliteType.method ReflectliteType.elem) Tryz.func165 (by kernel_rfl) (by kernel_rfl) (by kernel_rfl) (by kernel_rfl)
  have h38 := @run_callFunc_extern Tryz.prog 166 _ (ReflectliteType.relation "Implements" ReflectliteType.implements_) Tryz.func166 (by kernel_rfl) (by kernel_rfl) (by kernel_rfl) (by kernel_rfl)
  have f6 := rn_value2
  have f7 := rn_type2
  have mK := rl_mKind
  have mE := rl_mElem
  have mI := rl_mImpl
  have k2 := rn_kind2
  have k1 := rn_kind1
  have e2 := rn_elem2
  have i1 := rn_impl1
  have n8 := rn_isNil ⟨w.heap.size, 0, none⟩ t ((w.alloc (.cells #[.pointer (some t)] 110)).alloc (.cells #[.pointer (some ⟨5, 110, none⟩), .pointer (some ⟨w.heap.size, 0, none⟩), .int .u64 150] 130)) (alloc_cell (box0 rfl))
  have hg2 : ((w.alloc (.cells #[.pointer (some t)] 110)).alloc (.cells #[.pointer (some ⟨5, 110, none⟩), .pointer (some ⟨w.heap.size, 0, none⟩), .int .u64 150] 130)).cell? ⟨0, 0, none⟩ = some (.iface 154 (.agg #[.pointer (some ⟨5, 26, none⟩)])) := alloc_cell (alloc_cell hg)
  obtain ⟨ty, y, rfl⟩ := hC.iface
  have htl : t.block < w.heap.size := World.block_lt_of_cell? w t ht0
  have HA : Hid (Calls Tryz.prog 63 #[.iface ty y, .iface 110 (.pointer (some t)), .agg #[.pointer (some ⟨5, 110, none⟩), .pointer (some ⟨w.heap.size, 0, none⟩), .int .u64 150], .iface 154 (.agg #[.pointer (some ⟨5, 58, none⟩)])] ((w.alloc (.cells #[.pointer (some t)] 110)).alloc (.cells #[.pointer (some ⟨5, 110, none⟩), .pointer (some ⟨w.heap.size, 0, none⟩), .int .u64 150] 130)) fun e w' => AsR t (.int .i64 n) w w' e) := by
    refine (asl_num n ps (.iface ty y) t ⟨w.heap.size, 0, none⟩ old _ (hC.next (next_trans (alloc_below _ _) (alloc_below _ _))) (alloc_cell (box0 rfl)) (alloc_cell (alloc_cell ht0)) (by rw [World.frozen?_alloc_old _ _ t (by simp; omega), World.frozen?_alloc_old _ _ t (Nat.ne_of_lt htl)]; exact hf0)).mono ?_
    intro e w' h
    exact ⟨h.ret, h.cell, ((next_trans (alloc_below _ _) (alloc_below _ _)).mono (Nat.le_of_lt htl)).trans h.bel⟩
  clear hC ht0 hf0
  go_enter Tryz.func37, Tryz.ntmps37
  go_wp2_with (go_at_call 63; refine HA.out.mono ?_; rintro e w1 ⟨rfl, hc, hb⟩; have HR : Hid (AsR t (.int .i64 n) w w1 (.returned (.bool true))) := ⟨rfl, hc, hb⟩; clear hc hb)
  go_ret
  exact HR.out
set_option maxHeartbeats 4000000 in
set_option maxRecDepth 4000 in
theorem isl_any (n : Int) (ps : List (List UInt8 × Int)) (v : Value) (w : World) (hC : Chain w n ps v) :
    Calls Tryz.prog 59 #[v, .iface 58 (.int .i64 n), .bool true] w fun e w' => e = .returned (.bool true) ∧ w' = w := by
  have nI := no_is
  have hU := has_unwrap
  have mU := m_unwrap
  have hty := fun B => run_eql_iface_types (P := Tryz.prog) 59 58 (.pointer (some ⟨B, 0, none⟩)) (.int .i64 n) Tryz.underlying26 (by decide) w
  have heq : (binOp .eql 26 (.iface 58 (.int .i64 n)) (.iface 58 (.int .i64 n))).run Tryz.prog w = .ok (.bool true) w := by
    rw [Lib.run_eql_iface_int w n n Tryz.underlying26 comp_errno Tryz.underlying58]; simp
  have HCW : Hid (Chain w n ps v) := hC
  obtain ⟨g, Hg⟩ : ∃ g, Hid (ps.length = g) := ⟨_, rfl⟩
  obtain ⟨W, HW⟩ : ∃ W, Hid (w = W) := ⟨_, rfl⟩
  rw [HW.out] at hty heq HCW ⊢
  clear hC
  go_enter Tryz.func59, Tryz.ntmps59
  go_wp2
  go_loopg [0] g (fun gk v wr => wr = W ∧ ∃ ps, Hid (ps.length = gk) ∧ Hid (Chain W n ps v))
  case atStart => exact ⟨rfl, ps, Hg, HCW⟩
  case round =>
    obtain ⟨rfl, ps, HL, HC⟩ := hrel
    clear HCW Hg HW
    cases ps with
    | nil =>
      have hv : u0 = .iface 58 (.int .i64 n) := HC.out
      subst hv
      clear HC HL
      go_wp2
      go_ret
      exact ⟨rfl, rfl⟩
    | cons p r =>
      obtain ⟨B, v', rfl, h0, h1, h2, h3⟩ := HC.out
      have HC2 : Hid (Chain wr n r v') := h3
      obtain ⟨ty, y, rfl⟩ := h3.iface
      have hty2 := hty B
      clear h0 h1 h3 HC hty
      go_wp2_with fail
      refine (unwrap_v B _ _ h2).mono ?_
      rintro e w1 ⟨rfl, rfl⟩
      go_wp2
      go_roundg r.length
      case rel => exact ⟨rfl, r, rfl, HC2⟩
      case measure => rw [← HL.out]; simp
set_option maxHeartbeats 4000000 in
set_option maxRecDepth 4000 in
theorem is_any5 (n : Int) (ps : List (List UInt8 × Int)) (v : Value) (w : World) (hC : Chain w n ps v) :
    Calls Tryz.prog 36 #[v, .iface 58 (.int .i64 n)] w fun e w' => e = .returned (.bool true) ∧ w' = w := by
  have h10 := @run_callFunc_extern Tryz.prog 58 _ ReflectliteType.typeOf Tryz.func58 (by kernel_rfl) (by kernel_rfl) (by kernel_rfl) (by kernel_rfl)
  have h32 := @run_callFunc_extern Tryz.prog 164 _ (ReflectliteType.method fun t => do Rtype.noPackHeld "Comparable" t; pure (.bool (← typeInfo t).comparable)) Tryz.func164 (by kernel_rfl) (by kernel_rfl) (by kernel_rfl) (by kernel_rfl)
  have tT := rl_typeOfE
  have cT := rl_compE
  have mR := rl_mComp
  obtain ⟨ty, y, rfl⟩ := hC.iface
  have HI := isl_any n ps _ w hC
  have HI' : Hid (Calls Tryz.prog 59 #[.iface ty y, .iface 58 (.int .i64 n), .bool true] w fun e w' => e = .returned (.bool true) ∧ w' = w) := HI
  clear hC HI
  go_enter Tryz.func36, Tryz.ntmps36
  go_wp2_with (go_at_call 59; refine HI'.out.mono ?_; rintro e w1 ⟨rfl, rfl⟩)
  go_ret
  exact ⟨rfl, rfl⟩
set_option maxHeartbeats 4000000 in
set_option maxRecDepth 4000 in
theorem is_s (n : Int) (p : Option Addr) (w : World) :
    Calls Tryz.prog 36 #[.iface 107 (.pointer p), .iface 58 (.int .i64 n)] w fun e w' => e = .returned (.bool false) ∧ w' = w := by
  have h10 := @run_callFunc_extern Tryz.prog 58 _ ReflectliteType.typeOf Tryz.func58 (by kernel_rfl) (by kernel_rfl) (by kernel_rfl) (by kernel_rfl)
  have h32 := @run_callFunc_extern Tryz.prog 164 _ (ReflectliteType.method fun t => do Rtype.noPackHeld "Comparable" t; pure (.bool (← typeInfo t).comparable)) Tryz.func164 (by kernel_rfl) (by kernel_rfl) (by kernel_rfl) (by kernel_rfl)
  have tT := rl_typeOfE
  have cT := rl_compE
  have mR := rl_mComp
  have nI := no_isS
  have nU := no_unS
  have nV := no_unsS
  have hty := run_eql_iface_types (P := Tryz.prog) 107 58 (.pointer p) (.int .i64 n) Tryz.underlying26 (by decide) w
  go_enter Tryz.func36, Tryz.ntmps36
  go_wp2
  refine wp_loop_rounds 1 ?_
  rw [rounds_succ]
  go_wp2
  go_ret
  exact ⟨rfl, rfl⟩
end Go.Proofs.YthpmnomplhhfgaaGreatDoor
