/- Contracts of package lex's read and fault. -/
import Derived.Test.YtlnkeebfaninfaaGreatDoorLexSkip
namespace Go.Proofs.YtlnkeebfaninfaaGreatDoor
open Go.RowKit

set_option maxHeartbeats 4000000 in
set_option maxRecDepth 4000 in
theorem read_one (b o n cap : Nat) (c : UInt8) (t : List UInt8) (w : World) (hl : (c :: t).length = n) (h : Bs w b o (c :: t)) (hn : n ≤ 100000) (hc : n ≤ cap) :
    Calls Tryz.prog 15 #[.slice (some ⟨b, o, none⟩) n cap] w fun e w' => e = .returned (rdV (oneL (c :: t))) ∧ Below w.heap.size w w' := by
  have hn1 : 1 ≤ n := by rw [← hl]; simp
  have hni : (0 : Int) < (n : Int) := by omega
  have c0 : w.cell? ⟨b, o, none⟩ = some (.int .u8 (c.toNat : Int)) := by have := h.get (k := 0) rfl; exact this
  have c1 : (w.alloc (.cells #[.int .i64 0, .int .i64 0, .int .i64 0, .string ⟨#[]⟩] 40)).cell? ⟨b, o, none⟩ = some (.int .u8 (c.toNat : Int)) := alloc_cell c0
  have HS : Hid (∀ w' : World, Below w.heap.size w w' → Calls Tryz.prog 27 #[.slice (some ⟨b, o, none⟩) n cap] w' fun e w2 => e = .returned (rdV (strA t [] 1)) ∧ Below w'.heap.size w' w2) :=
    fun w' hb => read_str b o n cap (c :: t) w' hl (h.next hb) hn hn1
  have HV : Hid (∀ w' : World, c.toNat = 63 → Below w.heap.size w w' → Calls Tryz.prog 28 #[.slice (some ⟨b, o, none⟩) n cap] w' fun e w2 => e = .returned (rdV (varR t)) ∧ Below w'.heap.size w' w2) :=
    fun w' h63 hb => read_var b o n cap c t w' hl (h.next hb) hn hc h63
  have HW : Hid (∀ w' : World, Below w.heap.size w w' → Calls Tryz.prog 29 #[.slice (some ⟨b, o, none⟩) n cap] w' fun e w2 => e = .returned (rdV (wordR (c :: t))) ∧ Below w'.heap.size w' w2) :=
    fun w' hb => read_word b o n cap (c :: t) w' hl (h.next hb) hn hc
  clear h hl c0
  by_cases k1 : c.toNat = 40
  · have d1 : ((c.toNat : Int) == 40) = true := by simp; omega
    have HM : Hid (oneL (c :: t) = okR 4 0 [] 1) := one_open c t k1
    clear k1
    go_enter Tryz.func15, Tryz.ntmps15
    go_wp2
    rw [HM.out]
    exact bodyPost_ret (v := rdV (okR 4 0 [] 1)) (by simp [results, Tryz.results15, go_sem, rdV, okR, baL]) rfl ⟨rfl, alloc_below _ _⟩
  have d1 : ((c.toNat : Int) == 40) = false := by simp; omega
  by_cases k2 : c.toNat = 41
  · have d2 : ((c.toNat : Int) == 41) = true := by simp; omega
    have HM : Hid (oneL (c :: t) = okR 5 0 [] 1) := one_close c t k2
    clear k1 k2
    go_enter Tryz.func15, Tryz.ntmps15
    go_wp2
    rw [HM.out]
    exact bodyPost_ret (v := rdV (okR 5 0 [] 1)) (by simp [results, Tryz.results15, go_sem, rdV, okR, baL]) rfl ⟨rfl, alloc_below _ _⟩
  have d2 : ((c.toNat : Int) == 41) = false := by simp; omega
  by_cases k3 : c.toNat = 126
  · have d3 : ((c.toNat : Int) == 126) = true := by simp; omega
    have HM : Hid (oneL (c :: t) = okR 8 0 [] 1) := one_not c t k3
    clear k1 k2 k3
    go_enter Tryz.func15, Tryz.ntmps15
    go_wp2
    rw [HM.out]
    exact bodyPost_ret (v := rdV (okR 8 0 [] 1)) (by simp [results, Tryz.results15, go_sem, rdV, okR, baL]) rfl ⟨rfl, alloc_below _ _⟩
  have d3 : ((c.toNat : Int) == 126) = false := by simp; omega
  by_cases k4 : c.toNat = 34
  · have d4 : ((c.toNat : Int) == 34) = true := by simp; omega
    have HM : Hid (oneL (c :: t) = strA t [] 1) := one_str c t k4
    obtain ⟨m, Hm⟩ : ∃ m, Hid (strA t [] 1 = m) := ⟨_, rfl⟩
    rw [Hm.out] at HS HM
    clear k1 k2 k3 k4
    go_enter Tryz.func15, Tryz.ntmps15
    go_wp2_with fail
    refine (HS.out _ (alloc_below _ _)).mono ?_
    rintro e w1 ⟨rfl, hb1⟩
    have HB : Hid (Below w.heap.size w w1) := next_trans (alloc_below _ _) hb1
    obtain ⟨hcc, hff⟩ := bcells hb1
    clear hb1
    unfold rdV
    go_wp2
    rw [HM.out]
    exact bodyPost_ret (v := rdV m) (by simp [results, Tryz.results15, go_sem, hcc, rdV]) rfl ⟨rfl, below4 HB.out _ (Nat.le_refl _) _ _ _ _⟩
  have d4 : ((c.toNat : Int) == 34) = false := by simp; omega
  by_cases k5 : c.toNat = 63
  · have d5 : ((c.toNat : Int) == 63) = true := by simp; omega
    have HM : Hid (oneL (c :: t) = varR t) := one_var c t k5
    have HV2 : Hid (∀ w' : World, Below w.heap.size w w' → Calls Tryz.prog 28 #[.slice (some ⟨b, o, none⟩) n cap] w' fun e w2 => e = .returned (rdV (varR t)) ∧ Below w'.heap.size w' w2) := fun w' hb => HV.out w' k5 hb
    obtain ⟨m, Hm⟩ : ∃ m, Hid (varR t = m) := ⟨_, rfl⟩
    rw [Hm.out] at HV2 HM
    clear k1 k2 k3 k4 k5 HV
    go_enter Tryz.func15, Tryz.ntmps15
    go_wp2_with fail
    refine (HV2.out _ (alloc_below _ _)).mono ?_
    rintro e w1 ⟨rfl, hb1⟩
    have HB : Hid (Below w.heap.size w w1) := next_trans (alloc_below _ _) hb1
    obtain ⟨hcc, hff⟩ := bcells hb1
    clear hb1
    unfold rdV
    go_wp2
    rw [HM.out]
    exact bodyPost_ret (v := rdV m) (by simp [results, Tryz.results15, go_sem, hcc, rdV]) rfl ⟨rfl, below4 HB.out _ (Nat.le_refl _) _ _ _ _⟩
  · have d5 : ((c.toNat : Int) == 63) = false := by simp; omega
    have HM : Hid (oneL (c :: t) = wordR (c :: t)) := one_word c t (by omega)
    obtain ⟨m, Hm⟩ : ∃ m, Hid (wordR (c :: t) = m) := ⟨_, rfl⟩
    rw [Hm.out] at HW HM
    clear k1 k2 k3 k4 k5
    go_enter Tryz.func15, Tryz.ntmps15
    go_wp2_with fail
    refine (HW.out _ (alloc_below _ _)).mono ?_
    rintro e w1 ⟨rfl, hb1⟩
    have HB : Hid (Below w.heap.size w w1) := next_trans (alloc_below _ _) hb1
    obtain ⟨hcc, hff⟩ := bcells hb1
    clear hb1
    unfold rdV
    go_wp2
    rw [HM.out]
    exact bodyPost_ret (v := rdV m) (by simp [results, Tryz.results15, go_sem, hcc, rdV]) rfl ⟨rfl, below4 HB.out _ (Nat.le_refl _) _ _ _ _⟩

/-- What is wrong, and where: a Fault at a block. -/
def faultC (a e : Int) : Array Value := #[.string ⟨#[99, 104, 97, 114]⟩, .int .i64 a, .iface 38 (.int .i64 e)]
def FaultAt (w : World) (B : Nat) (a e : Int) : Prop := w.heap[B]? = some (.cells (faultC a e) 36 (0, 0))
theorem FaultAt.next {w w' : World} {B : Nat} {a e : Int} (h : FaultAt w B a e) (hb : Below w.heap.size w w') : FaultAt w' B a e := by
  unfold FaultAt at *
  have hlt : B < w.heap.size := by
    rcases Nat.lt_or_ge B w.heap.size with h1 | h1
    · exact h1
    · rw [Array.getElem?_eq_none h1] at h; exact absurd h (by simp)
  rw [hb.block B hlt]; exact h
theorem fault_any (a e : Int) (w : World) :
    Calls Tryz.prog 13 #[.int .i64 a, .int .i64 e] w fun r w' => r = .returned (.iface 32 (.pointer (some ⟨w.heap.size, 0, none⟩))) ∧ FaultAt w' w.heap.size a e ∧ Below w.heap.size w w' := by
  go_enter Tryz.func13, Tryz.ntmps13
  go_wp2
  go_ret
  refine ⟨rfl, ?_, alloc_below _ _⟩
  show (w.heap.push _)[w.heap.size]? = _
  rw [Array.getElem?_push_size]; rfl
end Go.Proofs.YtlnkeebfaninfaaGreatDoor
