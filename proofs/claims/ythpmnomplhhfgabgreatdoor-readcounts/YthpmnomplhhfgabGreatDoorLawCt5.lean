/- The walk of ReadCounts. -/
import Derived.Test.YthpmnomplhhfgabGreatDoorG20
import Derived.Test.YthpmnomplhhfgabGreatDoorG9
namespace Go.Proofs.YthpmnomplhhfgabGreatDoor
open Go.RowKit

theorem wrap_in {x : Int} (h1 : -9223372036854775808 ≤ x) (h2 : x ≤ 9223372036854775807) : IntKind.i64.wrap x = x := by
  rw [IntKind.wrap_i64]
  omega
theorem head_ndH (m b : Nat) : headN (ndH m b) = [104] := rfl
theorem lt_ndH (m b : Nat) : (ndH m b).l.length = m + 1 := by
  unfold ndH
  rw [List.length_cons, List.length_map, oneT_len]

set_option maxHeartbeats 16000000 in
set_option maxRecDepth 20000 in
theorem cnts5_walk (ao : Option Addr) (n cap : Nat) (l : List UInt8) (w : World) (hl : l.length = n) (h : IsB w ao l) (_hc : n ≤ cap) (h4 : Lib4 w) :
    Calls Tryz.prog 3 #[.slice ao n cap] w fun e w' => e = .returned (.bool true) ∧ Below w.heap.size w w' := by
  have H4 : Hid (Lib4 w) := h4
  have HI : Hid (IsB w ao l) := h
  have HL : Hid (l.length = n) := hl
  clear h hl h4
  go_enter Tryz.func3, Tryz.ntmps3
  go_wp2_with fail
  refine (known5 w H4.out).mono ?_
  rintro e w1 ⟨rfl, hb1⟩
  have HB1 : Hid (Below w.heap.size w w1) := hb1
  clear hb1
  by_cases hn : 20 < n
  · have hni : (20 : Int) < (n : Int) := by omega
    go_wp2
    go_ret
    exact ⟨rfl, HB1.out⟩
  have hni : ¬ (20 : Int) < (n : Int) := by omega
  obtain ⟨ns, Hns⟩ : ∃ ns, Hid (l.map (fun c : UInt8 => c.toNat % 20) = ns) := ⟨l.map (fun c : UInt8 => c.toNat % 20), rfl⟩
  have HNl : Hid (ns.length = n) := by rw [Hid, ← Hns.out, List.length_map, HL.out]
  have HNb : Hid (∀ m ∈ ns, m ≤ 19) := by
    intro m hm
    rw [← Hns.out] at hm
    obtain ⟨c, _, rfl⟩ := List.mem_map.1 hm
    have := Nat.mod_lt c.toNat (show 20 > 0 by decide)
    omega
  have HTl : Hid (∀ k, (cntTx (ns.take k)).length ≤ 820) := fun k => by
    have h1 := cntTx_len (ns.take k) fun m hm => HNb.out m (List.mem_of_mem_take hm)
    rw [List.length_take, HNl.out] at h1
    omega
  -- a byte, and what it counts
  have HCell : Hid (∀ k, k < n → ∃ c m b o, ao = some ⟨b, o, none⟩ ∧ w.cell? ⟨b, o + k, none⟩ = some (.int .u8 c) ∧ ns[k]? = some m ∧ 0 ≤ c ∧ c < 256 ∧ c % 20 = (m : Int) ∧ m ≤ 19) := fun k hk => by
    have hkl : k < l.length := by rw [HL.out]; exact hk
    obtain ⟨b, o, h1, h2⟩ := HI.out (by omega)
    refine ⟨(l[k].toNat : Int), l[k].toNat % 20, b, o, h1, h2 k hkl, ?_, by omega, ?_, by omega, ?_⟩
    · rw [← Hns.out, List.getElem?_map, List.getElem?_eq_getElem hkl]; rfl
    · have := l[k].toNat_lt; omega
    · have := Nat.mod_lt l[k].toNat (show 20 > 0 by decide); omega
  go_wp2
  go_loopw [3, 4] (fun t q wr => ∃ (k : Nat) (S : ByteArray), k ≤ n ∧ q = .int .i64 k ∧ t = .string S ∧ Hid (S = baL (cntTx (ns.take k))) ∧ Hid (Below w.heap.size w wr)) (fun _ q _ => n - (intOf q).toNat)
  case atStart => exact ⟨0, _, Nat.zero_le _, rfl, rfl, rfl, HB1⟩
  case round =>
    obtain ⟨k, S, hk, rfl, rfl, HS, HB⟩ := hrel
    have hSz : S.size ≤ 820 := by rw [HS.out, baL_size]; exact HTl.out k
    by_cases hlt : k < n
    · have hli : (k : Int) < (n : Int) := by omega
      have hk0 : (0 : Int) ≤ (k : Int) := by omega
      obtain ⟨c, m, b, o, rfl, hcell, hmk, hc0, hc1, hcm, hm19⟩ := HCell.out k hlt
      have HMk : Hid (ns[k]? = some m) := hmk
      have HCl : Hid (w.cell? ⟨b, o + k, none⟩ = some (.int .u8 c)) := hcell
      have hn1 : ¬ 9223372036854775807 < S.size + 2 := by omega
      have HN0 : Hid (S ++ ⟨#[40, 104]⟩ = baL (cntTx (ns.take k) ++ [40, 104] ++ onesL 0)) := by
        rw [Hid, HS.out, show (⟨#[40, 104]⟩ : ByteArray) = baL [40, 104] from rfl, baL_app]
        show _ = baL (cntTx (ns.take k) ++ [40, 104] ++ [])
        rw [List.append_nil]
      clear hmk hcell hSz
      go_wp2
      go_loopw [3, 5] (fun t q wq => ∃ (j : Nat) (S : ByteArray), j ≤ m ∧ q = .int .i64 j ∧ t = .string S ∧ Hid (S = baL (cntTx (ns.take k) ++ [40, 104] ++ onesL j)) ∧ Hid (Below w.heap.size w wq)) (fun _ q _ => m - (intOf q).toNat)
      case atStart => exact ⟨0, _, Nat.zero_le _, rfl, rfl, HN0, HB⟩
      case round =>
        obtain ⟨j, S', hj, rfl, rfl, HS', HBq⟩ := hrel
        have hSz' : S'.size ≤ 1000 := by
          rw [HS'.out, baL_size, List.length_append, List.length_append, ones_len]
          have := HTl.out k
          simp only [List.length_cons, List.length_nil]
          omega
        have hcw := keep_cell HBq.out HCl.out
        by_cases hlt2 : j < m
        · have hlj : (j : Int) < (m : Int) := by omega
          have hn2 : ¬ 9223372036854775807 < S'.size + 2 := by omega
          have HN1 : Hid (S' ++ ⟨#[32, 49]⟩ = baL (cntTx (ns.take k) ++ [40, 104] ++ onesL (j + 1))) := by
            rw [Hid, HS'.out, ones_snoc, show (⟨#[32, 49]⟩ : ByteArray) = baL [32, 49] from rfl, baL_app, List.append_assoc]
          clear hSz'
          go_wp2
          go_roundw
          case rel => exact ⟨j + 1, _, by omega, by go_num, rfl, HN1, HBq⟩
          case measure => simp [intOf]; omega
        · have hlj : ¬ (j : Int) < (m : Int) := by omega
          obtain rfl : m = j := by omega
          have hn2 : ¬ 9223372036854775807 < S'.size + 1 := by omega
          have HN1 : Hid (S' ++ ⟨#[41]⟩ = baL (cntTx (ns.take (k + 1)))) := by
            rw [Hid, HS'.out, show (⟨#[41]⟩ : ByteArray) = baL [41] from rfl, baL_app, List.take_add_one, HMk.out]
            show _ = baL (cntTx (ns.take k ++ [m]))
            rw [cntTx_app]
            show _ = baL (cntTx (ns.take k) ++ (hL m ++ []))
            unfold hL
            simp
          clear hSz'
          go_wp2
          go_roundw
          case rel => exact ⟨k + 1, _, by omega, by go_num, rfl, HN1, HBq⟩
          case measure => simp [intOf]; omega
    · have hli : ¬ (k : Int) < (n : Int) := by omega
      have HSe : Hid (S = baL (cntTx ns)) := by
        rw [Hid, HS.out, List.take_of_length_le (by rw [HNl.out]; omega)]
      obtain ⟨Z, hZs⟩ : ∃ Z, S.size = Z := ⟨_, rfl⟩
      have HRd : Hid (Calls Tryz.prog 5 #[.slice (some ⟨wr.heap.size, 0, none⟩) Z (grownCap wr Z 0 5)] (Lib.bytesWorld wr 5 S) fun e w' => (∃ ao cap, e = .returned (.tuple #[.slice ao n cap, .nilIface]) ∧ IsNds w' anyB ao (ndsH ns 0)) ∧ Below wr.heap.size wr w') := by
        refine (read_conv S (cntTx ns) (ndsH ns 0) wr Z hZs HSe.out (by have := cntTx_len ns HNb.out; rw [HNl.out] at this; omega) (H4.out.next HB.out).max (readQ_cnt ns HNb.out (by rw [HNl.out]; omega))).mono ?_
        rintro e w' ⟨⟨a, c, h1, _, h2⟩, hb⟩
        rw [ndsH_len, HNl.out] at h1
        exact ⟨⟨a, c, h1, h2⟩, hb⟩
      have hcv := conv_str S wr
      rw [hZs] at hcv
      clear hSz
      go_wp2_with fail
      refine HRd.out.mono ?_
      rintro e w2 ⟨⟨a2, c2, rfl, hN2⟩, hb2⟩
      have HB2 : Hid (Below w.heap.size w w2) := next_trans HB.out hb2
      have HN2 : Hid (IsNds w2 anyB a2 (ndsH ns 0)) := hN2
      clear hb2 hN2 hcv HRd
      go_wp2
      go_loopw [8] (fun q wq => ∃ i : Nat, i ≤ n ∧ q = .int .i64 i ∧ Hid (Below w2.heap.size w2 wq)) (fun q _ => n - (intOf q).toNat)
      case atStart => exact ⟨0, Nat.zero_le _, rfl, Below.refl _ _⟩
      case round =>
        obtain ⟨i, hi, rfl, HW⟩ := hrel
        have HW0 : Hid (Below w.heap.size w wr) := next_trans HB2.out HW.out
        by_cases hlt3 : i < n
        · have hl3 : (i : Int) < (n : Int) := by omega
          have hi0 : (0 : Int) ≤ (i : Int) := by omega
          obtain ⟨x, hx⟩ : ∃ x, (ndsH ns 0)[i]? = some x := ⟨_, List.getElem?_eq_getElem (by rw [ndsH_len, HNl.out]; exact hlt3)⟩
          obtain ⟨c, m, b, o, rfl, hcell, hmk, hc0, hc1, hcm, hm19⟩ := HCell.out i hlt3
          obtain ⟨m', xa, hm', rfl⟩ := ndsH_at ns 0 i x hx
          obtain rfl : m' = m := Option.some.inj (hm'.symm.trans hmk)
          obtain ⟨b1, o1, ka, kc, rfl, hA⟩ := HN2.out.at hx
          have hlx := lt_ndH m' xa
          have HCt : Hid (∀ w', Below w2.heap.size w2 w' → Calls Tryz.prog 6 #[ndV (ndH m' xa) ka kc] w' fun e w3 => e = .returned (.int .i64 (2 + (m' : Int))) ∧ Below w'.heap.size w' w3) := fun w' hb => by
            have := count_any (ndH m' xa) ka kc w' (by rw [cnt_ndH]; omega) hA.hc (hA.kids.next hb)
            rw [cnt_ndH] at this
            exact this
          have HHd : Hid (∀ w', Below w2.heap.size w2 w' → Calls Tryz.prog 7 #[ndV (ndH m' xa) ka kc] w' fun e w3 => e = .returned (.string ⟨#[104]⟩) ∧ Below w'.heap.size w' w3) := fun w' hb =>
            head_any (ndH m' xa) ka kc w' (by omega) hA.hc (hA.kids.next hb)
          unfold ndV at HCt HHd
          rw [hlx] at HCt HHd
          have p0 : wr.cell? ⟨b1, o1 + i * 5, none⟩ = some (.int .i64 0) := keep_cell HW.out hA.c0
          have p1 : wr.cell? ⟨b1, o1 + i * 5 + 1, none⟩ = some (.int .i64 (xa : Int)) := keep_cell HW.out hA.c1
          have p2 : wr.cell? ⟨b1, o1 + i * 5 + 2, none⟩ = some (.int .i64 0) := keep_cell HW.out hA.c2
          have p3 : wr.cell? ⟨b1, o1 + i * 5 + 3, none⟩ = some (.string (baL [])) := keep_cell HW.out hA.c3
          have p4 : wr.cell? ⟨b1, o1 + i * 5 + 4, none⟩ = some (.slice ka (ndH m' xa).l.length kc) := keep_cell HW.out hA.c4
          rw [hlx] at p4
          obtain ⟨Y, HY⟩ : ∃ Y, Hid (baL ([] : List UInt8) = Y) := ⟨_, rfl⟩
          obtain ⟨A, HA⟩ : ∃ A : Int, Hid ((xa : Int) = A) := ⟨_, rfl⟩
          obtain ⟨M, HM⟩ : ∃ M, Hid (m' + 1 = M) := ⟨_, rfl⟩
          have HCt2 : Hid (∀ w', Below w2.heap.size w2 w' → Calls Tryz.prog 6 #[.agg #[.int .i64 (0), .int .i64 (A), .int .i64 (0), .string (Y), .slice ka M kc]] w' fun e w3 => e = .returned (.int .i64 (2 + (m' : Int))) ∧ Below w'.heap.size w' w3) := by
            rw [← HY.out, ← HA.out, ← HM.out]; exact HCt.out
          have HHd2 : Hid (∀ w', Below w2.heap.size w2 w' → Calls Tryz.prog 7 #[.agg #[.int .i64 (0), .int .i64 (A), .int .i64 (0), .string (Y), .slice ka M kc]] w' fun e w3 => e = .returned (.string ⟨#[104]⟩) ∧ Below w'.heap.size w' w3) := by
            rw [← HY.out, ← HA.out, ← HM.out]; exact HHd.out
          rw [HY.out] at p3
          rw [HA.out] at p1
          rw [HM.out] at p4
          have g0 := keep_cell HW0.out hcell
          have hct : c.tmod 20 = (m' : Int) := by rw [Int.tmod_eq_emod_of_nonneg hc0]; exact hcm
          have hw1 : IntKind.i64.wrap (m' : Int) = (m' : Int) := wrap_in (by omega) (by omega)
          have hw2 : IntKind.i64.wrap (2 + (m' : Int)) = 2 + (m' : Int) := wrap_in (by omega) (by omega)
          have s0 : Below w2.heap.size w2 wr.drew := HW.out.drew
          have s1 : w2.heap.size ≤ wr.drew.heap.size := s0.size
          clear hx hcell hmk hm' hA HCt HHd HY HA HM hlx
          go_wp2_with fail
          go_region_held3 (fun w' => w'.cell? ⟨b1, o1 + i * 5, none⟩ = some (.int .i64 0) ∧ w'.cell? ⟨b1, o1 + i * 5 + 1, none⟩ = some (.int .i64 A) ∧ w'.cell? ⟨b1, o1 + i * 5 + 2, none⟩ = some (.int .i64 0) ∧ w'.cell? ⟨b1, o1 + i * 5 + 3, none⟩ = some (.string Y) ∧ w'.cell? ⟨b1, o1 + i * 5 + 4, none⟩ = some (.slice ka M kc) ∧ w'.cell? ⟨b, o + i, none⟩ = some (.int .u8 c) ∧ Below w2.heap.size w2 w' ∧ w2.heap.size ≤ w'.heap.size)
            (((try dsimp only); go_split_ands; refine ⟨?_, ?_, ?_, ?_, ?_, ?_, ?_, ?_⟩ <;> first | assumption | exact keep_cell (by assumption) (by assumption) | exact below_next (by assumption) (by assumption) (by assumption) | exact le_next (by assumption) (by assumption)))
            (first
              | (go_at_call 6; go_split_ands; with_reducible refine (HCt2.out _ (by assumption)).mono ?_; rintro e w' ⟨rfl, hb⟩)
              | (go_at_call 7; go_split_ands; with_reducible refine (HHd2.out _ (by assumption)).mono ?_; rintro e w' ⟨rfl, hb⟩))
          all_goals
            go_split_ands
            go_wp2
            go_roundw
            case rel => exact ⟨i + 1, by omega, by go_num, by rw [Hid]; assumption⟩
            case measure => simp [intOf]; omega
        · have hl3 : ¬ (i : Int) < (n : Int) := by omega
          go_wp2
          go_ret
          exact ⟨rfl, HW0.out⟩
end Go.Proofs.YthpmnomplhhfgabGreatDoor
