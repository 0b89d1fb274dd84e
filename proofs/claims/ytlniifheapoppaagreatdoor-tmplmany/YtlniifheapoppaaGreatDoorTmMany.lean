/- The walk of TmplMany. -/
import Derived.Test.YtlniifheapoppaaGreatDoorG30
import Derived.Test.YtlniifheapoppaaGreatDoorG21
namespace Go.Proofs.YtlniifheapoppaaGreatDoor
open Go.RowKit

theorem read_conv9 (X : ByteArray) (T : List UInt8) (L : List Nd) (a : Nat) (w : World) (N : Nat) (hN : X.size = N) (hX : X = baL T) (hn : T.length ≤ 65536) (hm : MaxW w) (hs : readQ T = ⟨L, a, 0⟩) :
    Calls Tryz.prog 28 #[.slice (some ⟨w.heap.size, 0, none⟩) N (grownCap w N 0 5)] (Lib.bytesWorld w 5 X) fun e w' => (∃ ao cap, e = .returned (.tuple #[.slice ao L.length cap, .nilIface]) ∧ L.length ≤ cap ∧ IsNds w' anyB ao L) ∧ Below w.heap.size w w' := by
  subst hN
  subst hX
  refine (read_ok9 (some ⟨w.heap.size, 0, none⟩) (baL T).size _ T L a _ rfl (conv_is T w).isB hn (grownCap_ge _ _ _ _) (hm.next (conv_bel _ _)) hs).mono ?_
  rintro e w1 ⟨h1, hb⟩
  exact ⟨h1, next_trans (conv_bel _ _) hb⟩
theorem many_app (k : Nat) {S : ByteArray} (h : S = baL (manyL k)) : S ++ (⟨#[32]⟩ : ByteArray) ++ ⟨#[40, 115, 108, 111, 116, 32, 115]⟩ ++ chr (97 + (k : Int)) ++ ⟨#[41]⟩ = baL (manyL (k + 1)) := by
  have hc : chr (97 + (k : Int)) = baL [UInt8.ofNat (97 + k)] := by unfold chr; rw [show (97 + (k : Int)).toNat = 97 + k by omega]; rfl
  rw [h, manyL_succ, show (⟨#[32]⟩ : ByteArray) = baL [32] from rfl, show (⟨#[40, 115, 108, 111, 116, 32, 115]⟩ : ByteArray) = baL [40, 115, 108, 111, 116, 32, 115] from rfl, hc, show (⟨#[41]⟩ : ByteArray) = baL [41] from rfl, baL_app, baL_app, baL_app, baL_app]
  simp only [List.append_assoc]
  rfl
def atM (k : Nat) : Int := if 16 < k then 175 else 0

set_option maxHeartbeats 16000000 in
set_option maxRecDepth 20000 in
theorem many9_walk (n : Int) (w : World) (_hn : inB n = true) (h4 : Lib4 w) :
    Calls Tryz.prog 5 #[.int .i64 n] w fun e w' => e = .returned (.bool true) ∧ Below w.heap.size w w' := by
  have H4 : Hid (Lib4 w) := h4
  clear h4
  go_enter Tryz.func5, Tryz.ntmps5
  go_wp2_with fail
  refine (known9 w H4.out.tab H4.out.max).mono ?_
  rintro e w1 ⟨rfl, hb1⟩
  have HB1 : Hid (Below w.heap.size w w1) := hb1
  clear hb1
  by_cases h0 : n < 0
  · go_wp2
    go_ret
    exact ⟨rfl, HB1.out⟩
  by_cases h6 : 24 < n
  · go_wp2
    go_ret
    exact ⟨rfl, HB1.out⟩
  obtain ⟨m, rfl⟩ : ∃ m : Nat, n = (m : Int) := ⟨n.toNat, by omega⟩
  have hm : m ≤ 24 := by omega
  go_wp2
  go_loopw [3, 4, 5] (fun t a q wr => ∃ (k : Nat) (S : ByteArray), k ≤ m ∧ q = .int .i64 k ∧ a = .int .i64 (atM k) ∧ t = .string S ∧ Hid (S = baL (manyL k)) ∧ Hid (Below w.heap.size w wr)) (fun _ _ q _ => m - (intOf q).toNat)
  case atStart => exact ⟨0, _, Nat.zero_le _, rfl, rfl, rfl, rfl, HB1⟩
  case round =>
    obtain ⟨k, S, hk, rfl, rfl, rfl, HS, HB⟩ := hrel
    by_cases hlt : k < m
    · have hSz : S.size = 14 + 10 * k := by rw [HS.out, baL_size, manyL_len]
      have hli : (k : Int) < (m : Int) := by omega
      have hn1 : ¬ 9223372036854775807 < S.size + 1 := by omega
      have hn2 : ¬ 9223372036854775807 < S.size + 1 + 7 := by omega
      have hn3 : ¬ 9223372036854775807 < S.size + 1 + 7 + 1 := by omega
      have hn4 : ¬ 9223372036854775807 < S.size + 1 + 7 + 1 + 1 := by omega
      have hw8 : IntKind.u8.wrap (97 + (k : Int)) = 97 + (k : Int) := by unfold IntKind.wrap; simp [IntKind.bits, IntKind.signed]; omega
      have HN : Hid (S ++ (⟨#[32]⟩ : ByteArray) ++ ⟨#[40, 115, 108, 111, 116, 32, 115]⟩ ++ chr (97 + (k : Int)) ++ ⟨#[41]⟩ = baL (manyL (k + 1))) := many_app k HS.out
      have hcv := conv_one wr (97 + (k : Int))
      by_cases h16 : k = 16
      · subst h16
        have hcv := conv_one wr 113
        have HN : Hid (S ++ (⟨#[32]⟩ : ByteArray) ++ ⟨#[40, 115, 108, 111, 116, 32, 115]⟩ ++ chr 113 ++ ⟨#[41]⟩ = baL (manyL 17)) := HN
        have hs0 : S.size = 174 := hSz
        clear hSz hw8
        go_wp2
        go_roundw
        case rel => exact ⟨17, _, by omega, by go_num, rfl, rfl, HN, next_trans HB.out (alloc_below _ _)⟩
        case measure => simp [intOf]; omega
      · have h16i : ¬ (k : Int) = 16 := by omega
        have h16b : ((k : Int) == 16) = false := by simp; omega
        clear hSz
        go_wp2
        go_roundw
        case rel => exact ⟨k + 1, _, by omega, by go_num, by rw [show atM k = atM (k + 1) by unfold atM; split <;> split <;> first | rfl | omega], rfl, HN, next_trans HB.out (alloc_below _ _)⟩
        case measure => simp [intOf]; omega
    · have hli : ¬ (k : Int) < (m : Int) := by omega
      obtain rfl : m = k := by omega
      have HTs : Hid (S ++ ⟨#[41]⟩ = baL (manyT m)) := by
        rw [Hid, HS.out, show (⟨#[41]⟩ : ByteArray) = baL [41] from rfl, baL_app]; rfl
      have hTl : (manyT m).length = 15 + 10 * m := by unfold manyT; rw [List.length_append, manyL_len]; show _ + 1 = _; omega
      have hSz : S.size = 14 + 10 * m := by rw [HS.out, baL_size, manyL_len]
      have hSz2 : (S ++ (⟨#[41]⟩ : ByteArray)).size = 15 + 10 * m := by rw [HTs.out, baL_size, hTl]
      have hn1 : ¬ 9223372036854775807 < S.size + 1 := by omega
      have hmn : (manyN m).l.length = m + 2 := by unfold manyN; simp
      have HRd : Hid (Calls Tryz.prog 28 #[.slice (some ⟨wr.heap.size, 0, none⟩) (15 + 10 * m) (grownCap wr (15 + 10 * m) 0 5)] (Lib.bytesWorld wr 5 (S ++ (⟨#[41]⟩ : ByteArray))) fun e w' => (∃ ao cap, e = .returned (.tuple #[.slice ao 1 cap, .nilIface]) ∧ IsNds w' anyB ao [manyN m]) ∧ Below wr.heap.size wr w') := by
        refine (read_conv9 _ (manyT m) [manyN m] 0 wr (15 + 10 * m) hSz2 HTs.out (by omega) (H4.out.next HB.out).max (read_many m hm)).mono ?_
        rintro e w' ⟨⟨a, c, h1, _, h2⟩, hb⟩
        exact ⟨⟨a, c, h1, h2⟩, hb⟩
      have hcv := conv_str (S ++ (⟨#[41]⟩ : ByteArray)) wr
      rw [hSz2] at hcv
      clear hSz hSz2 hTl HS HTs
      go_wp2_with fail
      refine HRd.out.mono ?_
      rintro e w2 ⟨⟨a2, c2, rfl, hN2⟩, hb2⟩
      have HB2 : Hid (Below w.heap.size w w2) := next_trans HB.out hb2
      obtain ⟨b, o, a0, cap0, rfl, hA0⟩ := hN2.at (j := 0) rfl
      have HPa : Hid (∀ w', Below w2.heap.size w2 w' → Calls Tryz.prog 8 #[.agg #[.int .i64 (0), .int .i64 (0), .int .i64 (0), .string (⟨#[]⟩), .slice a0 (m + 2) cap0]] w' fun e w3 => ((m ≤ 16 ∧ ∃ tn to tc, e = .returned (.tuple #[.agg #[.string tn, .slice to m tc], .nilIface])) ∨ (16 < m ∧ ∃ B, e = .returned (.tuple #[.agg #[.string ⟨#[]⟩, .slice none 0 0], .iface 104 (.pointer (some ⟨B, 0, none⟩))]) ∧ FaultAt w3 B 175 4)) ∧ Below w'.heap.size w' w3) := by
        intro w' hw
        obtain ⟨g1, g2⟩ := many_bd m hm
        have := tparse_any (manyN m) a0 cap0 w' (by omega) g2 hA0.hc (hA0.kids.next hw)
        unfold ndV at this
        rw [hmn] at this
        refine this.mono ?_
        rintro e w3 ⟨hbe, hr⟩
        refine ⟨?_, hbe⟩
        rcases par_many m hm with ⟨g3, t, g4, g5⟩ | ⟨g3, g4⟩
        · rw [g4] at hr
          rcases hr with ⟨t', to, tc, h1, h2, h3, h4⟩ | ⟨a, f, B, h1, _⟩
          · injection h1 with h1
            subst h1
            unfold tmV at h2
            rw [g5] at h2
            exact .inl ⟨g3, _, to, tc, h2⟩
          · cases h1
        · rw [g4] at hr
          rcases hr with ⟨t', to, tc, h1, _⟩ | ⟨a, f, B, h1, h2, h3⟩
          · cases h1
          · injection h1 with h1
            injection h1 with h1 h1'
            subst h1 h1'
            exact .inr ⟨g3, B, h2, h3⟩
      have c0 : w2.cell? ⟨b, o, none⟩ = some (.int .i64 0) := hA0.c0
      have c1 : w2.cell? ⟨b, o + 1, none⟩ = some (.int .i64 0) := hA0.c1
      have c2 : w2.cell? ⟨b, o + 2, none⟩ = some (.int .i64 0) := hA0.c2
      have c3 : w2.cell? ⟨b, o + 3, none⟩ = some (.string ⟨#[]⟩) := hA0.c3
      have c4 : w2.cell? ⟨b, o + 4, none⟩ = some (.slice a0 (m + 2) cap0) := by have := hA0.c4; rw [hmn] at this; exact this
      clear hb2 hN2 hA0 hcv HRd hmn
      go_wp2_with fail
      refine (HPa.out w2 (Below.refl _ _)).mono ?_
      rintro e w3 ⟨hr, hb3⟩
      have HB3 : Hid (Below w.heap.size w w3) := next_trans HB2.out hb3
      clear HPa c0 c1 c2 c3 c4 hb3
      rcases hr with ⟨h16, tn, to, tc, rfl⟩ | ⟨h16, B, rfl, hF⟩
      · have h16i : ¬ (16 : Int) < (m : Int) := by omega
        go_wp2
        go_ret
        exact ⟨rfl, next_trans HB3.out (alloc_below _ _)⟩
      · have h16i : (16 : Int) < (m : Int) := by omega
        have hat : atM m = 175 := by unfold atM; rw [if_pos h16]
        have HF : Hid (FaultAt w3 B 175 4) := hF
        clear hF
        go_wp2_with fail
        refine (wat_ex 175 4 _).mono ?_
        rintro e w5 ⟨⟨b5, rfl, _, hP⟩, hb5⟩
        have hbw : Below w3.heap.size w3 w5 := next_trans (alloc_below _ _) hb5
        have HB5 : Hid (Below w.heap.size w w5) := next_trans HB3.out hbw
        have HTl : Hid (Calls Tryz.prog 11 #[.iface 104 (.pointer (some ⟨B, 0, none⟩)), .agg #[.slice (some ⟨b5, 0, none⟩) 1 1, .int .i64 4]] w5 fun e w' => e = .returned (.bool true) ∧ Below w5.heap.size w5 w') :=
          tells_one B b5 175 4 w5 (FaultAt.chain (HF.out.next hbw)) hP (H4.out.next HB5.out) (by decide) (by decide) (by decide)
        have t1 : w5.cell? ⟨w3.heap.size, 1, none⟩ = some (.slice none 0 0) := keep_cell hb5 (box0 rfl)
        have t0 : w5.cell? ⟨w3.heap.size, 0, none⟩ = some (.string ⟨#[]⟩) := keep_cell hb5 (box0 rfl)
        clear hP
        go_wp2_with fail
        refine HTl.out.mono ?_
        rintro e w6 ⟨rfl, hb6⟩
        have HB6 : Hid (Below w.heap.size w w6) := next_trans HB5.out hb6
        have t1' : w6.cell? ⟨w3.heap.size, 1, none⟩ = some (.slice none 0 0) := keep_cell hb6 t1
        clear hb6 hb5 hbw t1 t0
        go_wp2
        go_ret
        exact ⟨rfl, HB6.out⟩
end Go.Proofs.YtlniifheapoppaaGreatDoor
