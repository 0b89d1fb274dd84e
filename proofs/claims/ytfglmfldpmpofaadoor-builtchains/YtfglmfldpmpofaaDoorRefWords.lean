/- The contract of the reference's Text (numbers). -/
import Derived.Test.YtfglmfldpmpofaaDoorNumWords
import Derived.Laws.BytesArg
namespace Go.Proofs.YtfglmfldpmpofaaDoor
open Go.RowKit

/-- A number without its sign. -/
theorem size_any (v : Int) (w : World) (hv : inB v = true) :
    Calls Tryd.prog 57 #[.int .i64 v] w fun e w' => e = .returned (.int .u64 (v.natAbs : Int)) ∧ w' = w := by
  rw [inB_iff] at hv
  obtain ⟨hv1, hv2⟩ := hv
  by_cases c : v < 0
  · have e : (v.natAbs : Int) = -(v + 1) + 1 := by omega
    rw [e]; clear e
    go_enter Tryd.func57, Tryd.ntmps57
    go_wp2
    go_ret
    exact ⟨rfl, rfl⟩
  · have e : (v.natAbs : Int) = v := by omega
    rw [e]; clear e
    go_enter Tryd.func57, Tryd.ntmps57
    go_wp2
    go_ret
    exact ⟨rfl, rfl⟩

/-- One byte as a text. -/
def chr (c : Int) : ByteArray := ⟨#[UInt8.ofNat c.toNat]⟩
theorem chr_list (c : Int) : (chr c).data.toList = [UInt8.ofNat c.toNat] := rfl
theorem chr_size (c : Int) : (chr c).size = 1 := rfl
theorem conv_one (W : World) (c : Int) :
    (convert 68 9 (.slice (some ⟨W.heap.size, 0, none⟩) 1 1)).run Tryd.prog (W.alloc (.cells #[.int .u8 c] 5)) = .ok (.string (chr c)) (W.alloc (.cells #[.int .u8 c] 5)) := by
  have hc : ∀ i, i < 1 → (W.alloc (.cells #[.int .u8 c] 5)).cell? ⟨W.heap.size, 0 + i, none⟩ = some (.int .u8 ([c].getD i 0)) := by
    intro i hi
    obtain rfl : i = 0 := by omega
    simp
  exact run_convert_bytes_arg (W.alloc (.cells #[.int .u8 c] 5)) 68 5 Tryd.underlying68 Tryd.underlying5 W.heap.size 0 1 1 [c] rfl hc 9 Tryd.underlying9
theorem ba_ext {a b : ByteArray} (h : a.data.toList = b.data.toList) : a = b := by
  obtain ⟨⟨x⟩⟩ := a
  obtain ⟨⟨y⟩⟩ := b
  simp at h
  rw [h]
theorem ba_app (a b : ByteArray) : (a ++ b).data.toList = a.data.toList ++ b.data.toList := by rw [ByteArray.data_append, Array.toList_append]
theorem ret_str {a b : ByteArray} (h : a = b) : Ending.returned (.string a) = .returned (.string b) := by rw [h]

theorem nDigits_le : ∀ (k u : Nat), u < 10 ^ (k + 1) → Lib.nDigits u ≤ k + 1 := by
  intro k
  induction k with
  | zero => intro u h; rw [Lib.nDigits_small (by simpa using h)]; exact Nat.le_refl _
  | succ k ih =>
    intro u h
    by_cases c : u < 10
    · rw [Lib.nDigits_small c]; omega
    · rw [Lib.nDigits_big c]
      have := ih (u / 10) (by rw [Nat.pow_succ] at h; omega)
      omega
theorem dec_small {u : Nat} (h : u < 10) : Lib.decDigits u = [UInt8.ofNat (48 + u % 10)] := by rw [Lib.decDigits_one h, Nat.mod_eq_of_lt h]
theorem dec_big {u : Nat} (h : ¬ u < 10) : Lib.decDigits u = Lib.decDigits (u / 10) ++ [UInt8.ofNat (48 + u % 10)] := by rw [Lib.decDigits, dif_neg h]
theorem digit_nat (u : Nat) : (48 + (u : Int) % 10).toNat = 48 + u % 10 := by omega

/-- What holds at each round's head of the reference's Text. -/
structure TextAt (u0 u : Nat) (t : ByteArray) : Prop where
  size : t.size ≤ 20
  tail : ∃ suf, t.data.toList = UInt8.ofNat (48 + u % 10) :: suf ∧ Lib.decDigits u0 = Lib.decDigits u ++ suf
theorem text_start (u0 : Nat) : TextAt u0 u0 (chr (48 + (u0 : Int) % 10)) :=
  ⟨by rw [chr_size]; decide, [], by rw [chr_list, digit_nat], by simp⟩
theorem text_step {u0 u : Nat} {t : ByteArray} (h0 : u0 < 10 ^ 20) (h : TextAt u0 u t) (hu : ¬ u < 10) : TextAt u0 (u / 10) (chr (48 + (u : Int) / 10 % 10) ++ t) := by
  obtain ⟨suf, h1, h2⟩ := h.tail
  have e : (chr (48 + (u : Int) / 10 % 10) ++ t).data.toList = UInt8.ofNat (48 + u / 10 % 10) :: UInt8.ofNat (48 + u % 10) :: suf := by
    rw [ba_app, chr_list, h1, show (48 + (u : Int) / 10 % 10).toNat = 48 + u / 10 % 10 by omega]; rfl
  have e2 : Lib.decDigits u0 = Lib.decDigits (u / 10) ++ (UInt8.ofNat (48 + u % 10) :: suf) := by rw [h2, dec_big hu]; simp
  refine ⟨?_, _, e, e2⟩
  have hl := congrArg List.length e2
  rw [Lib.decDigits_length, List.length_append, Lib.decDigits_length] at hl
  have h3 := nDigits_le 19 u0 h0
  have h4 := Lib.nDigits_pos (u / 10)
  have h5 : (chr (48 + (u : Int) / 10 % 10) ++ t).size = (chr (48 + (u : Int) / 10 % 10) ++ t).data.toList.length := by simp
  rw [h5, e]
  simp at hl ⊢
  omega
theorem text_end {u0 u : Nat} {t : ByteArray} (h : TextAt u0 u t) (hu : u < 10) : t.data.toList = Lib.decDigits u0 := by
  obtain ⟨suf, h1, h2⟩ := h.tail
  rw [h1, h2, dec_small hu]; rfl

set_option maxHeartbeats 1000000 in
theorem rtext_any (n : Int) (w : World) (hn : inB n = true) :
    Calls Tryd.prog 42 #[.int .i64 n] w fun e w' => e = .returned (.string ⟨(Lib.itoa n).toArray⟩) ∧ Below w.heap.size w w' := by
  have hb := (inB_iff n).1 hn
  obtain ⟨u, hu⟩ : ∃ u : Nat, n.natAbs = u := ⟨_, rfl⟩
  have hu2 : u ≤ 9223372036854775808 := by omega
  have hsz : Hid (∀ w : World, Calls Tryd.prog 57 #[.int .i64 n] w fun e w' => e = .returned (.int .u64 (u : Int)) ∧ w' = w) := by
    intro w; rw [← hu]; exact size_any n w hn
  have HI : Hid (Lib.itoa n = if n < 0 then 45 :: Lib.decDigits u else Lib.decDigits u) := by
    unfold Hid Lib.itoa
    split
    · rw [hu]
    · rw [← hu]; congr 1; omega
  clear hu hn hb
  have hconv := conv_one
  have hchr := chr_size
  go_enter Tryd.func42, Tryd.ntmps42
  go_wp2_with (go_at_call 57; refine (hsz.out _).mono ?_; rintro e w ⟨rfl, rfl⟩)
  go_loopw [3, 4] (fun a b wr => ∃ (v : Nat) (t : ByteArray), v ≤ 9223372036854775808 ∧ a = .int .u64 v ∧ b = .string t ∧ TextAt u v t ∧ Below w.heap.size w wr) (fun a _ _ => (intOf a).toNat)
  case atStart => exact ⟨u, _, hu2, rfl, rfl, text_start u, (Below.refl _ _).alloc (Nat.le_refl _) _⟩
  case round =>
    obtain ⟨v, t, hv, rfl, rfl, hT, hbel⟩ := hrel
    have hts := hT.size
    by_cases hlt : v < 10
    · by_cases hneg : n < 0
      · go_wp2
        go_ret
        refine ⟨ret_str (ba_ext ?_), hbel⟩
        rw [ba_app, HI.out, if_pos hneg, text_end hT hlt]
        rfl
      · go_wp2
        go_ret
        refine ⟨ret_str (ba_ext ?_), hbel⟩
        rw [HI.out, if_neg (by omega), text_end hT hlt]
    · go_wp2
      go_roundw
      case rel => exact ⟨v / 10, _, by omega, by go_num, rfl, text_step (by omega) hT hlt, hbel.alloc hbel.size _⟩
      case measure => simp [intOf]; omega
end Go.Proofs.YtfglmfldpmpofaaDoor
