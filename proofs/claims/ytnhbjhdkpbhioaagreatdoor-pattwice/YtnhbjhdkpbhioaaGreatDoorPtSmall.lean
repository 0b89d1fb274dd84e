/- Package pat: small functions; what a fact's value is held against. -/
import Derived.Test.YtnhbjhdkpbhioaaGreatDoorPtVals
import Derived.Test.YtnhbjhdkpbhioaaGreatDoorG23
import Derived.Deep.RegionHeld3
namespace Go.Proofs.YtnhbjhdkpbhioaaGreatDoor
open Go.RowKit

theorem calls_in {K : Nat} {args : Array Value} {W2 W : World} {Q : Ending → World → Prop} (hB : Below W2.heap.size W2 W) (h : Below W2.heap.size W2 W → Calls Tryz.prog K args W Q) : Calls Tryz.prog K args W Q := h hB
theorem bel6 {w W : World} {B b : Nat} (h : Below B w W) (hb : B ≤ b) (v0 v1 v2 v3 v4 v5 : Value) : Below B w ((((((W.setCell ⟨b, 0, none⟩ v0).setCell ⟨b, 1, none⟩ v1).setCell ⟨b, 2, none⟩ v2).setCell ⟨b, 3, none⟩ v3).setCell ⟨b, 4, none⟩ v4).setCell ⟨b, 5, none⟩ v5) :=
  set_bel (set_bel (set_bel (set_bel (set_bel (set_bel h hb) hb) hb) hb) hb) hb
theorem bel6a {w W : World} {B b : Nat} (h : Below B w W) (hb : B ≤ b) (hB : B ≤ W.heap.size) (v0 v1 v2 v3 v4 v5 : Value) (o : Obj) : Below B w (((((((W.setCell ⟨b, 0, none⟩ v0).setCell ⟨b, 1, none⟩ v1).setCell ⟨b, 2, none⟩ v2).setCell ⟨b, 3, none⟩ v3).setCell ⟨b, 4, none⟩ v4).setCell ⟨b, 5, none⟩ v5).alloc o) :=
  (bel6 h hb v0 v1 v2 v3 v4 v5).alloc (by simp [World.setCell]; exact hB) o
theorem pfault_any (a e : Int) (w : World) :
    Calls Tryz.prog 44 #[.int .i64 a, .int .i64 e] w fun r w' => r = .returned (.iface 133 (.pointer (some ⟨w.heap.size, 0, none⟩))) ∧ FaultAt w' w.heap.size a e ∧ Below w.heap.size w w' := by
  go_enter Tryz.func44, Tryz.ntmps44
  go_wp2
  go_ret
  refine ⟨rfl, ?_, alloc_below _ _⟩
  show (w.heap.push _)[w.heap.size]? = _
  rw [Array.getElem?_push_size]; rfl
theorem psymbol_any (Y : ByteArray) (w : World) :
    Calls Tryz.prog 57 #[.string Y] w fun e w' => e = .returned (.agg #[.int .i64 (2), .int .i64 (0), .int .i64 (0), .string (Y), .slice none 0 0]) ∧ Below w.heap.size w w' := by
  go_enter Tryz.func57, Tryz.ntmps57
  go_wp2
  exact bodyPost_ret (v := .agg #[.int .i64 (2), .int .i64 (0), .int .i64 (0), .string (Y), .slice none 0 0]) (by simp [results, Tryz.results57, go_sem]) rfl ⟨rfl, alloc_below _ _⟩
theorem plist_any (ao : Option Addr) (n cap : Nat) (w : World) :
    Calls Tryz.prog 59 #[.slice ao n cap] w fun e w' => e = .returned (.agg #[.int .i64 (0), .int .i64 (0), .int .i64 (0), .string (⟨#[]⟩), .slice ao n cap]) ∧ Below w.heap.size w w' := by
  go_enter Tryz.func59, Tryz.ntmps59
  go_wp2
  exact bodyPost_ret (v := .agg #[.int .i64 (0), .int .i64 (0), .int .i64 (0), .string (⟨#[]⟩), .slice ao n cap]) (by simp [results, Tryz.results59, go_sem]) rfl ⟨rfl, alloc_below _ _⟩
theorem hassl_any (ao : Option Addr) (n cap p : Nat) (w : World) :
    Calls Tryz.prog 58 #[.slice ao n cap, .int .i64 (p : Int)] w fun e w' => e = .returned (.bool (decide (p < n))) ∧ w' = w := by
  have h0 : (0 : Int) ≤ (p : Int) := by omega
  by_cases h : p < n
  · have hi : (p : Int) < (n : Int) := by omega
    rw [decide_eq_true h]
    go_enter Tryz.func58, Tryz.ntmps58
    go_wp2
    go_ret
    exact ⟨rfl, rfl⟩
  · have hi : ¬ (p : Int) < (n : Int) := by omega
    rw [decide_eq_false h]
    go_enter Tryz.func58, Tryz.ntmps58
    go_wp2
    go_ret
    exact ⟨rfl, rfl⟩
theorem hasval_any (ao : Option Addr) (n cap p : Nat) (w : World) :
    Calls Tryz.prog 73 #[.slice ao n cap, .int .i64 (p : Int)] w fun e w' => e = .returned (.bool (decide (p < n))) ∧ w' = w := by
  have h0 : (0 : Int) ≤ (p : Int) := by omega
  by_cases h : p < n
  · have hi : (p : Int) < (n : Int) := by omega
    rw [decide_eq_true h]
    go_enter Tryz.func73, Tryz.ntmps73
    go_wp2
    go_ret
    exact ⟨rfl, rfl⟩
  · have hi : ¬ (p : Int) < (n : Int) := by omega
    rw [decide_eq_false h]
    go_enter Tryz.func73, Tryz.ntmps73
    go_wp2
    go_ret
    exact ⟨rfl, rfl⟩
/-- A list with a symbol ahead. -/
def hasH (x : Nd) : Bool := (headO x).isSome
theorem hasH_k {k : Int} {a : Nat} {i : Int} {s : List UInt8} {l : List Nd} (h : k ≠ 0) : hasH ⟨k, a, i, s, l⟩ = false := by unfold hasH headO; rw [if_neg h]; rfl
theorem hasH_nil (a : Nat) (i : Int) (s : List UInt8) : hasH ⟨0, a, i, s, []⟩ = false := rfl
theorem hasH_yes (a : Nat) (i : Int) (s : List UInt8) (a' : Nat) (i' : Int) (s' : List UInt8) (l' r : List Nd) : hasH ⟨0, a, i, s, ⟨2, a', i', s', l'⟩ :: r⟩ = true := rfl
theorem hasH_no {a : Nat} {i : Int} {s : List UInt8} {y : Nd} {r : List Nd} (h : y.k ≠ 2) : hasH ⟨0, a, i, s, y :: r⟩ = false := by unfold hasH headO; simp [h]

set_option maxHeartbeats 4000000 in
set_option maxRecDepth 20000 in
theorem hashead_any (x : Nd) (ao : Option Addr) (cap : Nat) (w : World) (hc : x.l.length ≤ cap) (hk : IsNds w anyB ao x.l) :
    Calls Tryz.prog 43 #[ndV x ao cap] w fun e w' => e = .returned (.bool (hasH x)) ∧ Below w.heap.size w w' := by
  unfold ndV
  obtain ⟨k, a, i, s, l⟩ := x
  simp only at hc hk ⊢
  by_cases hk0 : k = 0
  · subst hk0
    cases l with
    | nil =>
      rw [hasH_nil]
      go_enter Tryz.func43, Tryz.ntmps43
      go_wp2
      go_ret
      exact ⟨rfl, alloc_below _ _⟩
    | cons y r =>
      obtain ⟨b, o, ao', cap', rfl, hA⟩ := hk.at (j := 0) rfl
      rw [Nat.zero_mul, Nat.add_zero] at hA
      have c0 := alloc_cell (w := w) (o := .cells #[.int .i64 0, .int .i64 (a : Int), .int .i64 i, .string (baL s), .slice (some ⟨b, o, none⟩) (y :: r).length cap] 43) hA.c0
      obtain ⟨yk, ya, yi, ys, yl⟩ := y
      simp only at c0
      obtain ⟨n, hn⟩ : ∃ n : Nat, (Nd.mk yk ya yi ys yl :: r).length = n + 1 := ⟨_, rfl⟩
      rw [hn] at c0 hc ⊢
      have hd : (0 : Int) < (n : Int) + 1 := by omega
      by_cases hy : yk = 2
      · subst hy
        rw [hasH_yes]
        clear hk hA hn
        go_enter Tryz.func43, Tryz.ntmps43
        go_wp2
        go_ret
        exact ⟨rfl, alloc_below _ _⟩
      · have hd2 : (yk == 2) = false := by simpa using hy
        rw [hasH_no hy]
        clear hk hA hn hy
        go_enter Tryz.func43, Tryz.ntmps43
        go_wp2
        go_ret
        exact ⟨rfl, alloc_below _ _⟩
  · have hd : (k == 0) = false := by simpa using hk0
    rw [hasH_k hk0]
    clear hk
    go_enter Tryz.func43, Tryz.ntmps43
    go_wp2
    go_ret
    exact ⟨rfl, alloc_below _ _⟩

set_option maxHeartbeats 4000000 in
set_option maxRecDepth 8000 in
theorem holds_any (p : Nat) (n : Bool) (v : ByteArray) (tk ti : Int) (ts : ByteArray) (k i : Int) (s : ByteArray) (k' i' : Int) (s' : ByteArray) (w : World) :
    Calls Tryz.prog 71 #[.agg #[.int .i64 (p : Int), .bool n, .string v, .int .i64 tk, .int .i64 ti, .string ts], .agg #[.int .i64 (k), .int .i64 (i), .string (s)], .agg #[.int .i64 (k'), .int .i64 (i'), .string (s')]] w fun e w' => e = .returned (.bool (holdT ⟨p, n, v, tk, ti, ts⟩ k i s k' i' s')) ∧ Below w.heap.size w w' := by
  obtain ⟨q, HQ⟩ : ∃ q, Hid (sameB k i s k' i' s' = q) := ⟨_, rfl⟩
  have HR : Hid (holdT ⟨p, n, v, tk, ti, ts⟩ k i s k' i' s' = (q != n)) := by rw [Hid]; unfold holdT; rw [HQ.out]
  rw [HR.out]
  have HSm : Hid (∀ w : World, Calls Tryz.prog 102 #[.agg #[.int .i64 (k), .int .i64 (i), .string (s)], .agg #[.int .i64 (k'), .int .i64 (i'), .string (s')]] w fun e w' => e = .returned (.bool q) ∧ Below w.heap.size w w') := by
    intro w; rw [← HQ.out]; exact same_any k i k' i' s s' w
  obtain ⟨W, HWe⟩ : ∃ W, Hid (((w.alloc (.cells #[.int .i64 (p : Int), .bool n, .string v, .int .i64 tk, .int .i64 ti, .string ts] 88)).alloc (.cells #[.int .i64 k, .int .i64 i, .string s] 71)).alloc (.cells #[.int .i64 k', .int .i64 i', .string s'] 71) = W) := ⟨_, rfl⟩
  have HB : Hid (Below w.heap.size w W) := by rw [← HWe.out]; exact next_trans (next_trans (alloc_below _ _) (alloc_below _ _)) (alloc_below _ _)
  have HX : Hid (Bx W w.heap.size #[.int .i64 (p : Int), .bool n, .string v, .int .i64 tk, .int .i64 ti, .string ts]) := by rw [← HWe.out]; exact ((Bx.made _ _ _).alloc _).alloc _
  have HY : Hid (Bx W (w.heap.size + 1) #[.int .i64 k, .int .i64 i, .string s]) := by
    rw [← HWe.out]; exact (Bx.made' rfl (by simp)).alloc _
  have HZ : Hid (Bx W (w.heap.size + 1 + 1) #[.int .i64 k', .int .i64 i', .string s']) := Bx.made' HWe.out (by simp)
  have x1 : W.cell? ⟨w.heap.size, 1, none⟩ = some (.bool n) := HX.out.cell 1
  have y0 : W.cell? ⟨w.heap.size + 1, 0, none⟩ = some (.int .i64 k) := HY.out.cell 0
  have y1 : W.cell? ⟨w.heap.size + 1, 1, none⟩ = some (.int .i64 i) := HY.out.cell 1
  have y2 : W.cell? ⟨w.heap.size + 1, 2, none⟩ = some (.string s) := HY.out.cell 2
  have z0 : W.cell? ⟨w.heap.size + 1 + 1, 0, none⟩ = some (.int .i64 k') := HZ.out.cell 0
  have z1 : W.cell? ⟨w.heap.size + 1 + 1, 1, none⟩ = some (.int .i64 i') := HZ.out.cell 1
  have z2 : W.cell? ⟨w.heap.size + 1 + 1, 2, none⟩ = some (.string s') := HZ.out.cell 2
  clear HR
  go_enter Tryz.func71, Tryz.ntmps71
  go_wp2_with fail
  rw [HWe.out]
  clear HWe
  go_region_held3 (fun w' => w'.cell? ⟨w.heap.size, 1, none⟩ = some (.bool n) ∧ w'.cell? ⟨w.heap.size + 1, 0, none⟩ = some (.int .i64 k) ∧ w'.cell? ⟨w.heap.size + 1, 1, none⟩ = some (.int .i64 i) ∧ w'.cell? ⟨w.heap.size + 1, 2, none⟩ = some (.string s) ∧ w'.cell? ⟨w.heap.size + 1 + 1, 0, none⟩ = some (.int .i64 k') ∧ w'.cell? ⟨w.heap.size + 1 + 1, 1, none⟩ = some (.int .i64 i') ∧ w'.cell? ⟨w.heap.size + 1 + 1, 2, none⟩ = some (.string s'))
    (((try dsimp only); go_split_ands; refine ⟨?_, ?_, ?_, ?_, ?_, ?_, ?_⟩ <;> first | assumption | exact keep_cell (by assumption) (by assumption)))
    (first
      | (go_at_call 102; refine (HSm.out _).mono ?_; rintro e w4 ⟨rfl, hb⟩; have hb4 := hb))
  all_goals
    go_split_ands
    have HB4 : Hid (Below w.heap.size w w4) := next_trans HB.out (below_undrawn hb4)
    clear hb hb4 x1 y0 y1 y2 z0 z1 z2
    cases q <;> cases n <;> (go_wp2; go_ret; exact ⟨rfl, HB4.out⟩)
end Go.Proofs.YtnhbjhdkpbhioaaGreatDoor
