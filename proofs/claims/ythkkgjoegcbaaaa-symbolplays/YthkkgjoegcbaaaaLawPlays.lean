/- The walk of the law SymbolPlays. -/
import Derived.Test.YthkkgjoegcbaaaaPlaysM
namespace Go.Proofs.Ythkkgjoegcbaaaa
open Go.RowKit Go.Maps

set_option maxHeartbeats 4000000 in
set_option maxRecDepth 100000 in
theorem plays_core (a0 : Option Addr) (len cap ab off : Nat) (Sx : Nat → ByteArray) (n : Int) (w : World) (h100 : len ≤ 100) (_hw : (Lit.int .i64 n).wf = true)
    (hcs : ∀ k, k < len → a0 = some ⟨ab, off, none⟩ ∧ ab < w.heap.size ∧ w.cell? ⟨ab, off + k, none⟩ = some (.string (Sx k)) ∧ (Sx k).size ≤ maxLen) :
    Calls Try.prog 3 #[.slice a0 len cap, .int .i64 n] w fun e w' => e = .returned (.bool true) ∧ Below w.heap.size w w' := by
  have d100 : decide ((100 : Int) < (len : Int)) = false := decide_eq_false (by omega)
  go_enter Try.func3, Try.ntmps3
  go_wp2_with fail
  refine (known_any _).mono ?_
  rintro e w1 ⟨rfl, hb0⟩
  go_wp2_with fail
  refine (new_ex w1).mono ?_
  rintro e w2 ⟨b, hb, rfl, T2, hb1⟩
  have hB : w.heap.size ≤ b := Nat.le_trans hb0.size hb
  have hbel : Below w.heap.size w w2 := hb0.trans (hb1.mono hb0.size)
  clear hb hb0 hb1
  go_wp2_with fail
  go_loopw [6, 7] (fun mv i wr => ∃ (k : Nat) (v mm : Value) (M : List ByteArray) (ao : Option Addr) (cm : Nat), k ≤ len ∧ i = .int .i64 k ∧ mv = .slice ao M.length cm ∧ M.length ≤ k ∧ Rel wr w b v mm M ao cm) (fun _ i _ => len - (intOf i).toNat)
  case atStart => exact ⟨0, _, _, [], none, 0, Nat.zero_le _, rfl, rfl, Nat.le_refl _, T2, World.ownsRow_nil _ _ _ _, (fun _ h => by cases h), hbel⟩
  case round =>
    obtain ⟨k, v, mm, M, ao, cm, hk, rfl, rfl, hMk, R⟩ := hrel
    clear T2 hbel
    by_cases hlt : k < len
    · obtain ⟨rfl, hab, hc, hz⟩ := hcs k hlt
      clear hcs
      obtain ⟨s, hs⟩ : ∃ s, Sx k = s := ⟨_, rfl⟩
      rw [hs] at hc hz
      clear hs
      have hcr : wr.cell? ⟨ab, off + k, none⟩ = some (.string s) := (R.bel.cell (p := ⟨ab, off + k, none⟩) hab).trans hc
      have ik : (k : Int) < (len : Int) := by omega
      have hz' := hz
      unfold maxLen at hz'
      by_cases h200 : 200 < s.size
      · go_wp2_with fail
        go_ret
        exact ⟨rfl, R.bel⟩
      cases hg : goodB s
      · go_wp2_with (first
          | (go_at_call 8; refine (intern_bad _ _ s hz hg).mono ?_; rintro e wr ⟨rfl, rfl⟩)
          | (go_at_call 9; refine (rgood_any s _ hz).mono ?_; rintro e wr ⟨rfl, rfl⟩)
          | (go_at_call 10; refine (good_any s _ hz).mono ?_; rintro e wr ⟨rfl, rfl⟩))
        go_roundw
        case rel => exact ⟨k + 1, v, mm, M, ao, cm, by omega, by go_num, rfl, by omega, R⟩
        case measure => simp [intOf]; omega
      by_cases hp : pos M s = 0
      · have HI := intern_new wr b v mm M R.tab s hg hp (by omega)
        rw [show ((M.length + 1 : Nat) : Int) = (M.length : Int) + 1 from rfl] at HI
        have HP : Hid (pos M s = 0) := hp
        clear hp
        go_wp2_with fail
        refine HI.mono ?_
        rintro e w3 ⟨rfl, v3, m3, T3, t3, hf3⟩
        obtain ⟨hown3, hdis3, hb3⟩ := R.interned hB t3 hf3
        have hcr3 : w3.cell? ⟨ab, off + k, none⟩ = some (.string s) := (hb3.cell (p := ⟨ab, off + k, none⟩) hab).trans hc
        have hone := R.tab.one
        clear HI hcr R t3 hf3
        go_wp2_with (first
          | (go_at_call 9; refine (rgood_any s _ hz).mono ?_; rintro e w3 ⟨rfl, rfl⟩)
          | (go_at_call 10; refine (good_any s _ hz).mono ?_; rintro e w3 ⟨rfl, rfl⟩))
        go_loopw [11, 12] (fun at' j wi => ∃ jn : Nat, jn ≤ M.length ∧ j = .int .i64 jn ∧ at' = .int .i64 (pos (M.take jn) s) ∧ Still w3 wi) (fun _ j _ => M.length - (intOf j).toNat)
        case atStart => exact ⟨0, Nat.zero_le _, rfl, rfl, Still.refl _⟩
        case round =>
          obtain ⟨jn, hjn, rfl, rfl, hst⟩ := hrel
          by_cases hj : jn < M.length
          · obtain ⟨g, rfl, hgc⟩ := own_cell hown3 hj
            have hgi : wr.cell? ⟨g, jn, none⟩ = some (.string M[jn]) := by rw [hst.cell]; exact hgc jn hj
            have hli : wr.cell? ⟨ab, off + k, none⟩ = some (.string s) := by rw [hst.cell]; exact hcr3
            have ij : (jn : Int) < (M.length : Int) := by omega
            have hsn := pos_take hone s jn hj
            obtain ⟨t, ht⟩ : ∃ t, M[jn] = t := ⟨_, rfl⟩
            rw [ht] at hgi hsn
            clear ht
            by_cases hts : t = s
            · subst hts
              have hq : (t.toList == t.toList) = true := by simp
              rw [if_pos rfl] at hsn
              have HSN : Hid _ := hsn
              clear hsn
              go_wp2_with fail
              go_quiet (fail)
              go_wp2
              go_roundw
              case rel => exact ⟨jn + 1, by omega, by go_num, by rw [HSN.out]; go_num, hst.drewN _⟩
              case measure => simp [intOf]; omega
            · have hq : (t.toList == s.toList) = false := bytes_ne hts
              rw [if_neg hts] at hsn
              have HSN : Hid _ := hsn
              clear hsn
              go_wp2_with fail
              go_quiet (fail)
              go_wp2
              go_roundw
              case rel => exact ⟨jn + 1, by omega, by go_num, by rw [HSN.out], hst.drewN _⟩
              case measure => simp [intOf]; omega
          · have hall : M.take jn = M := List.take_of_length_le (by omega)
            rw [hall]
            clear hall
            rw [HP.out]
            have hownI : wr.ownsRow w.heap.size 9 1 (.slice ao M.length cm) M.length (M.map Value.string) := ownsRow_same hown3 fun _ _ => by rw [hst.heap]
            have TI : Tab wr b v3 m3 (M ++ [s]) := T3.kept fun _ _ => by rw [hst.heap]
            have hbI := hb3.trans (hst.below w.heap.size)
            have hlI : wr.cell? ⟨ab, off + k, none⟩ = some (.string s) := by rw [hst.cell]; exact hcr3
            have hsI := hbI.size
            have HF : ∀ W, Tab W b v3 m3 (M ++ [s]) → Calls Try.prog 11 #[.pointer (some ⟨b, 0, none⟩), .string s] W fun e w' => e = .returned (.tuple #[.int .i64 ((M.length : Int) + 1), .bool true]) ∧ w' = W := fun W TT => by
              have := find_any W b v3 m3 (M ++ [s]) TT s hz
              rw [pos_snoc_same M s HP.out, decide_eq_true (Nat.succ_ne_zero _), show ((M.length + 1 : Nat) : Int) = (M.length : Int) + 1 from rfl] at this
              exact this
            clear hcr3 T3 hown3 hb3 hst
            go_wp2_with (first
              | (at_builtin; refine wpList_append_str rfl _ _ rfl w.heap.size (.slice ao M.length cm) M.length (M.map Value.string) rfl (hownI.alloc _) ⟨wr.heap.size, 0, none⟩ 1 s rfl (by simp) (by omega) (by simp; omega) ?_; intro g cap5 w5 hr5 hg5 hgb5; have R5 := rel_appended TI hdis3 hbI hownI hr5 hg5 hgb5; have hl5 : w5.cell? ⟨ab, off + k, none⟩ = some (.string s) := (R5.bel.cell (p := ⟨ab, off + k, none⟩) hab).trans hc; clear hlI hownI hg5 hgb5 hr5 hbI TI)
              | (go_at_call 11; refine (HF _ R5.tab).mono ?_; rintro e w5 ⟨rfl, rfl⟩)
              | go_in)
            go_roundw
            case rel => exact ⟨k + 1, v3, m3, M ++ [s], some ⟨g, 0, none⟩, cap5, by omega, by go_num, by simp, by simp; omega, R5⟩
            case measure => simp [intOf]; omega
      · have HI := intern_has wr b v mm M R.tab s hg hp
        obtain ⟨N, hN⟩ : ∃ N : Nat, pos M s = N := ⟨_, rfl⟩
        rw [hN] at HI hp
        have HP : Hid (pos M s = N) := hN
        have hNle : N ≤ M.length := by rw [← hN]; exact pos_le M s
        have dN : ((N : Int) == 0) = false := beq_eq_false_iff_ne.2 (by omega)
        clear hN
        go_wp2_with fail
        refine HI.mono ?_
        rintro e w3 ⟨rfl, rfl⟩
        have hone := R.tab.one
        clear HI
        go_wp2_with (first
          | (go_at_call 9; refine (rgood_any s _ hz).mono ?_; rintro e w3 ⟨rfl, rfl⟩)
          | (go_at_call 10; refine (good_any s _ hz).mono ?_; rintro e w3 ⟨rfl, rfl⟩))
        go_loopw [11, 12] (fun at' j wi => ∃ jn : Nat, jn ≤ M.length ∧ j = .int .i64 jn ∧ at' = .int .i64 (pos (M.take jn) s) ∧ Still w3 wi) (fun _ j _ => M.length - (intOf j).toNat)
        case atStart => exact ⟨0, Nat.zero_le _, rfl, rfl, Still.refl _⟩
        case round =>
          obtain ⟨jn, hjn, rfl, rfl, hst⟩ := hrel
          by_cases hj : jn < M.length
          · obtain ⟨g, rfl, hgc⟩ := own_cell R.own hj
            have hgi : wr.cell? ⟨g, jn, none⟩ = some (.string M[jn]) := by rw [hst.cell]; exact hgc jn hj
            have hli : wr.cell? ⟨ab, off + k, none⟩ = some (.string s) := by rw [hst.cell]; exact hcr
            have ij : (jn : Int) < (M.length : Int) := by omega
            have hsn := pos_take hone s jn hj
            obtain ⟨t, ht⟩ : ∃ t, M[jn] = t := ⟨_, rfl⟩
            rw [ht] at hgi hsn
            clear ht
            by_cases hts : t = s
            · subst hts
              have hq : (t.toList == t.toList) = true := by simp
              rw [if_pos rfl] at hsn
              have HSN : Hid _ := hsn
              clear hsn
              go_wp2_with fail
              go_quiet (fail)
              go_wp2
              go_roundw
              case rel => exact ⟨jn + 1, by omega, by go_num, by rw [HSN.out]; go_num, hst.drewN _⟩
              case measure => simp [intOf]; omega
            · have hq : (t.toList == s.toList) = false := bytes_ne hts
              rw [if_neg hts] at hsn
              have HSN : Hid _ := hsn
              clear hsn
              go_wp2_with fail
              go_quiet (fail)
              go_wp2
              go_roundw
              case rel => exact ⟨jn + 1, by omega, by go_num, by rw [HSN.out], hst.drewN _⟩
              case measure => simp [intOf]; omega
          · have hall : M.take jn = M := List.take_of_length_le (by omega)
            rw [hall]
            clear hall
            rw [HP.out]
            have RI := R.still hst
            have hlI : wr.cell? ⟨ab, off + k, none⟩ = some (.string s) := by rw [hst.cell]; exact hcr
            have HF : Calls Try.prog 11 #[.pointer (some ⟨b, 0, none⟩), .string s] wr fun e w' => e = .returned (.tuple #[.int .i64 N, .bool true]) ∧ w' = wr := by
              have := find_any wr b v mm M RI.tab s hz
              rw [HP.out, decide_eq_true hp] at this
              exact this
            clear hcr R hst
            go_wp2_with (go_at_call 11; refine HF.mono ?_; rintro e wr ⟨rfl, rfl⟩)
            go_roundw
            case rel => exact ⟨k + 1, v, mm, M, ao, cm, by omega, by go_num, rfl, by omega, RI⟩
            case measure => simp [intOf]; omega
    · have HL := len_any wr b v mm M R.tab
      have iM : M.length ≤ 100 := by omega
      clear hcs
      by_cases h1 : n < 1
      · have d1 : decide (1 ≤ n) = false := decide_eq_false (by omega)
        have HN := name_no wr b v mm M R.tab n (.inl h1)
        go_wp2_with (first
          | (go_at_call 12; refine HN.mono ?_; rintro e wr ⟨rfl, rfl⟩)
          | (go_at_call 13; refine HL.mono ?_; rintro e wr ⟨rfl, rfl⟩))
        go_ret
        exact ⟨rfl, R.bel⟩
      have d1 : decide (1 ≤ n) = true := decide_eq_true (by omega)
      by_cases h2 : (M.length : Int) < n
      · have d2 : decide (n ≤ (M.length : Int)) = false := decide_eq_false (by omega)
        have HN := name_no wr b v mm M R.tab n (.inr h2)
        go_wp2_with (first
          | (go_at_call 12; refine HN.mono ?_; rintro e wr ⟨rfl, rfl⟩)
          | (go_at_call 13; refine HL.mono ?_; rintro e wr ⟨rfl, rfl⟩))
        go_ret
        exact ⟨rfl, R.bel⟩
      have d2 : decide (n ≤ (M.length : Int)) = true := decide_eq_true (by omega)
      obtain ⟨p, rfl⟩ : ∃ p : Nat, n = (p : Int) + 1 := ⟨(n - 1).toNat, by omega⟩
      have hpl : p < M.length := by omega
      have ip : (p : Int) < (M.length : Int) := by omega
      have HN := name_yes wr b v mm M R.tab ((p : Int) + 1) (by omega) (by omega) M[p] (by rw [show ((p : Int) + 1 - 1).toNat = p by omega]; exact List.getElem?_eq_getElem hpl)
      obtain ⟨g, rfl, hgc⟩ := own_cell R.own hpl
      have hgp := hgc p hpl
      obtain ⟨t, ht⟩ : ∃ t, M[p] = t := ⟨_, rfl⟩
      rw [ht] at hgp HN
      have hq : (t.toList == t.toList) = true := by simp
      clear ht hgc
      go_wp2_with (first
        | (go_at_call 12; refine HN.mono ?_; rintro e wr ⟨rfl, rfl⟩)
        | (go_at_call 13; refine HL.mono ?_; rintro e wr ⟨rfl, rfl⟩))
      go_ret
      exact ⟨rfl, R.bel⟩

theorem plays_walk (a0 : Option Addr) (len cap : Nat) (Sx : Nat → ByteArray) (n : Int) (w : World) (hr : IsStrs w a0 len cap Sx) (hw : (Lit.int .i64 n).wf = true) :
    Calls Try.prog 3 #[.slice a0 len cap, .int .i64 n] w fun e w' => e = .returned (.bool true) ∧ Below w.heap.size w w' := by
  by_cases h100 : len ≤ 100
  · rcases hr with ⟨rfl, rfl, rfl⟩ | ⟨x, rfl, _, _, hc⟩
    · exact plays_core none 0 0 0 0 Sx n w h100 hw (fun k hk => by omega)
    · obtain ⟨ab, off, spot⟩ := x
      refine plays_core _ len cap ab off Sx n w h100 hw fun k hk => ?_
      obtain ⟨h1, h2⟩ := hc k hk
      have hspot : spot = none := by simpa [Addr.add] using World.cell?_spot (hc 0 (by omega)).1
      subst hspot
      have h3 : w.cell? ⟨ab, off + k, none⟩ = some (.string (Sx k)) := by
        rw [Addr.add_lit] at h1
        exact h1
      exact ⟨rfl, World.block_lt_of_cell? w ⟨ab, off + k, none⟩ h3, h3, h2⟩
  · have hl : len ≤ maxLen := by
      rcases hr with ⟨_, h, _⟩ | ⟨_, _, h1, h2, _⟩
      · omega
      · omega
    unfold maxLen at hl
    have d100 : decide ((100 : Int) < (len : Int)) = true := decide_eq_true (by omega)
    go_enter Try.func3, Try.ntmps3
    go_wp2_with (go_at_call 6; refine (known_any _).mono ?_; rintro e w1 ⟨rfl, hb0⟩)
    go_ret
    exact ⟨rfl, hb0⟩

end Go.Proofs.Ythkkgjoegcbaaaa
