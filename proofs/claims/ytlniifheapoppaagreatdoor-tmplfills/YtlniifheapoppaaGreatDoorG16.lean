/- errors.As and errors.Is at chains, and at errors that hold no Errno. -/
import Derived.Test.YtlniifheapoppaaGreatDoorG15
namespace Go.Proofs.YtlniifheapoppaaGreatDoor
open Go.RowKit Go.Extern.Stop Go.Stop Go.Extern

set_option maxHeartbeats 4000000 in
set_option maxRecDepth 4000 in
theorem asl_ef (n : Int) (t a : Addr) (w : World) :
    Calls Tryz.prog 80 #[.iface 63 (.int .i64 n), .iface 106 (.pointer (some t)), .agg #[.pointer (some ⟨5, 106, none⟩), .pointer (some a), .int .u64 150], .iface 189 (.agg #[.pointer (some ⟨5, 104, none⟩)])] w fun e w' => e = .returned (.bool false) ∧ Below w.heap.size w w' := by
  have h10 := @run_callFunc_extern Tryz.prog 75 _ ReflectliteType.typeOf Tryz.func75 (by kernel_rfl) (by kernel_rfl) (by kernel_rfl) (by kernel_rfl)
  have h35 := @run_callFunc_extern Tryz.prog 183 _ (ReflectliteType.relation "AssignableTo" ReflectliteType.assignableTo) Tryz.func183 (by kernel_rfl) (by kernel_rfl) (by kernel_rfl) (by kernel_rfl)
  have tE := rl_typeOfE
  have mA := rl_mAssign
  have a1 := rn_assignEF
  have nA := no_asE
  have nU := no_unE
  have nV := no_unsE
  go_enter Tryz.func80, Tryz.ntmps80
  go_wp2
  refine wp_loop_rounds 1 ?_
  rw [rounds_succ]
  go_wp2
  go_ret
  exact ⟨rfl, alloc_below _ _⟩
set_option maxHeartbeats 4000000 in
set_option maxRecDepth 4000 in
theorem as_ef (n : Int) (t : Addr) (w : World) (hg : ErrW w)  :
    Calls Tryz.prog 45 #[.iface 63 (.int .i64 n), .iface 106 (.pointer (some t))] w fun e w' => e = .returned (.bool false) ∧ Below w.heap.size w w' := by
  unfold ErrW at hg
  have h6 := @run_callFunc_extern Tryz.prog 77 _ (fun args => ReflectliteValue.unpack (args.getD 0 (.tuple #[]))) Tryz.func77 (by kernel_rfl) (by kernel_rfl) (by kernel_rfl) (by kernel_rfl)
  have h7 := @run_callFunc_extern Tryz.prog 78 _ (ReflectliteValue.methodAny (ReflectliteValue.valueError "reflectlite.Value.Type" 0) (fun t _ _ _ => ReflectliteType.toType t)) Tryz.func78 (by kernel_rfl) (by kernel_rfl) (by kernel_rfl) (by kernel_rfl)
  have h8 := @run_callFunc_extern Tryz.prog 79 _ (ReflectliteValue.method (ReflectliteValue.valueError "reflectlite.Value.IsNil" 0) ReflectliteValue.isNil) Tryz.func79 (by kernel_rfl) (by kernel_rfl) (by kernel_rfl) (by kernel_rfl)
  have h27 := @run_callFunc_extern Tryz.prog 173 _ (ReflectliteType.abiMethod fun t => do pure (.int .u8 (← Rtype.kind t))) Tryz.func173 (by kernel_rfl) (by kernel_rfl) (by kernel_rfl) (by kernel_rfl)
  have h37 := @run_callFunc_extern Tryz.prog 185 _ (ReflectliteType.method ReflectliteType.elem) Tryz.func185 (by kernel_rfl) (by kernel_rfl) (by kernel_rfl) (by kernel_rfl)
  have h38 := @run_callFunc_extern Tryz.prog 186 _ (ReflectliteType.relation "Implements" ReflectliteType.implements_) Tryz.func186 (by kernel_rfl) (by kernel_rfl) (by kernel_rfl) (by kernel_rfl)
  have f6 := rl_value2
  have f7 := rl_type2
  have mK := rl_mKind
  have mE := rl_mElem
  have mI := rl_mImpl
  have k2 := rl_kind2
  have k1 := rl_kind1
  have e2 := rl_elem2
  have i1 := rl_impl1
  have n8 := rl_isNil ⟨w.heap.size, 0, none⟩ t ((w.alloc (.cells #[.pointer (some t)] 106)).alloc (.cells #[.pointer (some ⟨5, 106, none⟩), .pointer (some ⟨w.heap.size, 0, none⟩), .int .u64 150] 158)) (alloc_cell (box0 rfl))
  have hg2 : ((w.alloc (.cells #[.pointer (some t)] 106)).alloc (.cells #[.pointer (some ⟨5, 106, none⟩), .pointer (some ⟨w.heap.size, 0, none⟩), .int .u64 150] 158)).cell? ⟨0, 0, none⟩ = some (.iface 189 (.agg #[.pointer (some ⟨5, 34, none⟩)])) := alloc_cell (alloc_cell hg)
  go_enter Tryz.func45, Tryz.ntmps45
  go_wp2_with (go_at_call 80; refine (asl_ef n t ⟨w.heap.size, 0, none⟩ _).mono ?_; rintro e w1 ⟨rfl, hb⟩)
  go_ret
  exact ⟨rfl, next_trans (next_trans (alloc_below _ _) (alloc_below _ _)) hb⟩
set_option maxHeartbeats 4000000 in
set_option maxRecDepth 4000 in
theorem as_num (n : Int) (ps : List (List UInt8 × Int)) (v old : Value) (t : Addr) (w : World) (hg : ErrW w) (hC : Chain w n ps v) (ht0 : w.cell? t = some old) (hf0 : w.frozen? t = false) :
    Calls Tryz.prog 45 #[v, .iface 150 (.pointer (some t))] w fun e w' => AsR t (.int .i64 n) w w' e := by
  unfold ErrW at hg
  have h6 := @run_callFunc_extern Tryz.prog 77 _ (fun args => ReflectliteValue.unpack (args.getD 0 (.tuple #[]))) Tryz.func77 (by kernel_rfl) (by kernel_rfl) (by kernel_rfl) (by kernel_rfl)
  have h7 := @run_callFunc_extern Tryz.prog 78 _ (ReflectliteValue.methodAny (ReflectliteValue.valueError "reflectlite.Value.Type" 0) (fun t _ _ _ => ReflectliteType.toType t)) Tryz.func78 (by kernel_rfl) (by kernel_rfl) (by kernel_rfl) (by kernel_rfl)
  have h8 := @run_callFunc_extern Tryz.prog 79 _ (ReflectliteValue.method (ReflectliteValue.valueError "reflectlite.Value.IsNil" 0) ReflectliteValue.isNil) Tryz.func79 (by kernel_rfl) (by kernel_rfl) (by kernel_rfl) (by kernel_rfl)
  have h27 := @run_callFunc_extern Tryz.prog 173 _ (ReflectliteType.abiMethod fun t => do pure (.int .u8 (← Rtype.kind t))) Tryz.func173 (by kernel_rfl) (by kernel_rfl) (by kernel_rfl) (by kernel_rfl)
  have h37 := @run_callFunc_extern Tryz.prog 185 _ (ReflectliteType.method ReflectliteType.elem) Tryz.func185 (by kernel_rfl) (by kernel_rfl) (by kernel_rfl) (by kernel_rfl)
  have h38 := @run_callFunc_extern Tryz.prog 186 _ (ReflectliteType.relation "Implements" ReflectliteType.implements_) Tryz.func186 (by kernel_rfl) (by kernel_rfl) (by kernel_rfl) (by kernel_rfl)
  have f6 := rn_value2
  have f7 := rn_type2
  have mK := rl_mKind
  have mE := rl_mElem
  have mI := rl_mImpl
  have k2 := rn_kind2
  have k1 := rn_kind1
  have e2 := rn_elem2
  have i1 := rn_impl1
  have n8 := rn_isNil ⟨w.heap.size, 0, none⟩ t ((w.alloc (.cells #[.pointer (some t)] 150)).alloc (.cells #[.pointer (some ⟨5, 150, none⟩), .pointer (some ⟨w.heap.size, 0, none⟩), .int .u64 150] 158)) (alloc_cell (box0 rfl))
  have hg2 : ((w.alloc (.cells #[.pointer (some t)] 150)).alloc (.cells #[.pointer (some ⟨5, 150, none⟩), .pointer (some ⟨w.heap.size, 0, none⟩), .int .u64 150] 158)).cell? ⟨0, 0, none⟩ = some (.iface 189 (.agg #[.pointer (some ⟨5, 34, none⟩)])) := alloc_cell (alloc_cell hg)
  obtain ⟨ty, y, rfl⟩ := hC.iface
  have htl : t.block < w.heap.size := World.block_lt_of_cell? w t ht0
  have HA : Hid (Calls Tryz.prog 80 #[.iface ty y, .iface 150 (.pointer (some t)), .agg #[.pointer (some ⟨5, 150, none⟩), .pointer (some ⟨w.heap.size, 0, none⟩), .int .u64 150], .iface 189 (.agg #[.pointer (some ⟨5, 63, none⟩)])] ((w.alloc (.cells #[.pointer (some t)] 150)).alloc (.cells #[.pointer (some ⟨5, 150, none⟩), .pointer (some ⟨w.heap.size, 0, none⟩), .int .u64 150] 158)) fun e w' => AsR t (.int .i64 n) w w' e) := by
    refine (asl_num n ps (.iface ty y) t ⟨w.heap.size, 0, none⟩ old _ (hC.next (next_trans (alloc_below _ _) (alloc_below _ _))) (alloc_cell (box0 rfl)) (alloc_cell (alloc_cell ht0)) (by rw [World.frozen?_alloc_old _ _ t (by simp; omega), World.frozen?_alloc_old _ _ t (Nat.ne_of_lt htl)]; exact hf0)).mono ?_
    intro e w' h
    exact ⟨h.ret, h.cell, ((next_trans (alloc_below _ _) (alloc_below _ _)).mono (Nat.le_of_lt htl)).trans h.bel⟩
  clear hC ht0 hf0
  go_enter Tryz.func45, Tryz.ntmps45
  go_wp2_with (go_at_call 80; refine HA.out.mono ?_; rintro e w1 ⟨rfl, hc, hb⟩; have HR : Hid (AsR t (.int .i64 n) w w1 (.returned (.bool true))) := ⟨rfl, hc, hb⟩; clear hc hb)
  go_ret
  exact HR.out
set_option maxHeartbeats 4000000 in
set_option maxRecDepth 4000 in
theorem isl_any (n : Int) (ps : List (List UInt8 × Int)) (v : Value) (w : World) (hC : Chain w n ps v) :
    Calls Tryz.prog 76 #[v, .iface 63 (.int .i64 n), .bool true] w fun e w' => e = .returned (.bool true) ∧ w' = w := by
  have nI := no_is
  have hU := has_unwrap
  have mU := m_unwrap
  have hty := fun B => run_eql_iface_types (P := Tryz.prog) 104 63 (.pointer (some ⟨B, 0, none⟩)) (.int .i64 n) Tryz.underlying34 (by decide) w
  have heq : (binOp .eql 34 (.iface 63 (.int .i64 n)) (.iface 63 (.int .i64 n))).run Tryz.prog w = .ok (.bool true) w := by
    rw [Lib.run_eql_iface_int w n n Tryz.underlying34 comp_errno Tryz.underlying63]; simp
  have HCW : Hid (Chain w n ps v) := hC
  obtain ⟨g, Hg⟩ : ∃ g, Hid (ps.length = g) := ⟨_, rfl⟩
  obtain ⟨W, HW⟩ : ∃ W, Hid (w = W) := ⟨_, rfl⟩
  rw [HW.out] at hty heq HCW ⊢
  clear hC
  go_enter Tryz.func76, Tryz.ntmps76
  go_wp2
  go_loopg [0] g (fun gk v wr => wr = W ∧ ∃ ps, Hid (ps.length = gk) ∧ Hid (Chain W n ps v))
  case atStart => exact ⟨rfl, ps, Hg, HCW⟩
  case round =>
    obtain ⟨rfl, ps, HL, HC⟩ := hrel
    clear HCW Hg HW
    cases ps with
    | nil =>
      have hv : u0 = .iface 63 (.int .i64 n) := HC.out
      subst hv
      clear HC HL
      go_wp2
      go_ret
      exact ⟨rfl, rfl⟩
    | cons p r =>
      obtain ⟨B, v', rfl, h0, h1, h2, h3⟩ := HC.out
      have HC2 : Hid (Chain wr n r v') := h3
      obtain ⟨ty, y, rfl⟩ := h3.iface
      have hty2 := hty B
      clear h0 h1 h3 HC hty
      go_wp2_with fail
      refine (unwrap_v B _ _ h2).mono ?_
      rintro e w1 ⟨rfl, rfl⟩
      go_wp2
      go_roundg r.length
      case rel => exact ⟨rfl, r, rfl, HC2⟩
      case measure => rw [← HL.out]; simp
set_option maxHeartbeats 4000000 in
set_option maxRecDepth 4000 in
theorem is_any5 (n : Int) (ps : List (List UInt8 × Int)) (v : Value) (w : World) (hC : Chain w n ps v) :
    Calls Tryz.prog 44 #[v, .iface 63 (.int .i64 n)] w fun e w' => e = .returned (.bool true) ∧ w' = w := by
  have h10 := @run_callFunc_extern Tryz.prog 75 _ ReflectliteType.typeOf Tryz.func75 (by kernel_rfl) (by kernel_rfl) (by kernel_rfl) (by kernel_rfl)
  have h32 := @run_callFunc_extern Tryz.prog 184 _ (ReflectliteType.method fun t => do Rtype.noPackHeld "Comparable" t; pure (.bool (← typeInfo t).comparable)) Tryz.func184 (by kernel_rfl) (by kernel_rfl) (by kernel_rfl) (by kernel_rfl)
  have tT := rl_typeOfE
  have cT := rl_compE
  have mR := rl_mComp
  obtain ⟨ty, y, rfl⟩ := hC.iface
  have HI := isl_any n ps _ w hC
  have HI' : Hid (Calls Tryz.prog 76 #[.iface ty y, .iface 63 (.int .i64 n), .bool true] w fun e w' => e = .returned (.bool true) ∧ w' = w) := HI
  clear hC HI
  go_enter Tryz.func44, Tryz.ntmps44
  go_wp2_with (go_at_call 76; refine HI'.out.mono ?_; rintro e w1 ⟨rfl, rfl⟩)
  go_ret
  exact ⟨rfl, rfl⟩
end Go.Proofs.YtlniifheapoppaaGreatDoor
