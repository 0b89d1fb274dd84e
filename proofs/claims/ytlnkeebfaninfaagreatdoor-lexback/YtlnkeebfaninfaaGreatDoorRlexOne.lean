/- The contract of the reference's one. -/
import Derived.Test.YtlnkeebfaninfaaGreatDoorRlexText
import Derived.Test.YtlnkeebfaninfaaGreatDoorRefParse
import Derived.Test.YtlnkeebfaninfaaGreatDoorLexOne
namespace Go.Proofs.YtlnkeebfaninfaaGreatDoor
open Go.RowKit

/-- What the reference's one tells: the token, where it is one. -/
def ROne (p : Nat) (m : Rd) (e : Ending) : Prop := ∃ (k i : Int) (s : ByteArray) (z : Int), e = .returned (.tuple #[.agg #[.int .i64 (k), .int .i64 (p), .int .i64 (i), .string (s)], .int .i64 z, .int .i64 m.e]) ∧ (m.e = 0 → k = m.k ∧ i = m.i ∧ s = baL m.s ∧ z = (p : Int) + (m.z : Int))
theorem rone_ok (p : Nat) (k i : Int) (s : List UInt8) (z : Nat) (Z : Int) (hZ : Z = (p : Int) + (z : Int)) : ROne p (okR k i s z) (.returned (.tuple #[.agg #[.int .i64 (k), .int .i64 (p), .int .i64 (i), .string (baL s)], .int .i64 Z, .int .i64 0])) :=
  ⟨k, i, baL s, Z, rfl, fun _ => ⟨rfl, rfl, rfl, hZ⟩⟩
theorem rone_bad (p : Nat) (e : Int) (he : e ≠ 0) (k i : Int) (s : ByteArray) (Z : Int) : ROne p (badR e) (.returned (.tuple #[.agg #[.int .i64 (k), .int .i64 (p), .int .i64 (i), .string (s)], .int .i64 Z, .int .i64 e])) :=
  ⟨k, i, s, Z, rfl, fun h => absurd h he⟩
theorem rone_at (p : Nat) (m : Rd) (k : Int) (Z : Int) (hm : m.e = 0 → k = m.k ∧ m.i = 0 ∧ Z = (p : Int) + (m.z : Int)) : ROne p m (.returned (.tuple #[.agg #[.int .i64 (k), .int .i64 (p), .int .i64 (0), .string (baL m.s)], .int .i64 Z, .int .i64 m.e])) :=
  ⟨k, 0, baL m.s, Z, rfl, fun h => ⟨(hm h).1, (hm h).2.1.symm, rfl, (hm h).2.2⟩⟩
theorem str_kind : ∀ (r acc : List UInt8) (n : Nat), (strA r acc n).e = 0 → (strA r acc n).k = 3 ∧ (strA r acc n).i = 0
  | [], acc, n, h => by rw [strA_nil] at h; exact absurd h (by decide)
  | c :: r, acc, n, h => by
    by_cases h1 : c.toNat = 34
    · rw [strA_end _ _ _ _ h1] at h ⊢
      unfold endR at h ⊢
      split at h
      · exact absurd h (by decide)
      · rename_i h3; rw [if_neg h3]; exact ⟨rfl, rfl⟩
    · by_cases h2 : c.toNat = 92
      · cases r with
        | nil => rw [strA_esc0 _ _ _ h2] at h; exact absurd h (by decide)
        | cons d t =>
          rw [strA_esc _ _ _ _ _ h2] at h ⊢
          exact str_kind t _ _ h
      · rw [strA_one _ _ _ _ h1 h2] at h ⊢
        exact str_kind r _ _ h
theorem four_cells {w w1 : World} {v0 v1 v2 v3 : Value} {T : Nat} {o : Obj} (h : Below ((w.alloc (.cells #[v0, v1, v2, v3] T)).alloc o).heap.size ((w.alloc (.cells #[v0, v1, v2, v3] T)).alloc o) w1) :
    w1.cell? ⟨w.heap.size, 0, none⟩ = some v0 ∧ w1.cell? ⟨w.heap.size, 1, none⟩ = some v1 ∧ w1.cell? ⟨w.heap.size, 2, none⟩ = some v2 ∧ w1.cell? ⟨w.heap.size, 3, none⟩ = some v3 :=
  ⟨keep_cell h (alloc_cell (box0 rfl)), keep_cell h (alloc_cell (box0 rfl)), keep_cell h (alloc_cell (box0 rfl)), keep_cell h (alloc_cell (box0 rfl))⟩
theorem le_block1 (w : World) (q : Nat) : w.heap.size ≤ (⟨w.heap.size + 1, q, none⟩ : Addr).block := Nat.le_succ _

set_option maxHeartbeats 4000000 in
set_option maxRecDepth 4000 in
theorem rone_mark (b o n cap p : Nat) (l : List UInt8) (c : UInt8) (w : World) (hn : n ≤ 100000) (hp : p < n) (hb : Bs w b o l) (hc : l[p]? = some c) (K : Int) (h : (c.toNat = 40 ∧ K = 4) ∨ (c.toNat = 41 ∧ K = 5) ∨ (c.toNat = 126 ∧ K = 8)) :
    Calls Tryz.prog 17 #[.slice (some ⟨b, o, none⟩) n cap, .int .i64 (p : Int)] w fun e w' => e = .returned (.tuple #[.agg #[.int .i64 (K), .int .i64 (p), .int .i64 (0), .string (⟨#[]⟩)], .int .i64 ((p : Int) + 1), .int .i64 0]) ∧ Below w.heap.size w w' := by
  have hpi : (p : Int) < (n : Int) := by omega
  have c0 := hb.get hc
  have c1 : ((w.alloc (.cells #[.int .i64 0, .int .i64 0, .int .i64 0, .string ⟨#[]⟩] 41)).alloc (.cells #[.int .i64 0, .int .i64 (p : Int), .int .i64 0, .string ⟨#[]⟩] 41)).cell? ⟨b, o + p, none⟩ = some (.int .u8 (c.toNat : Int)) := alloc_cell (alloc_cell c0)
  clear hb c0 hc
  rcases h with ⟨h1, rfl⟩ | ⟨h1, rfl⟩ | ⟨h1, rfl⟩
  · have d0 : ((c.toNat : Int) == 40) = true := by simp; omega
    clear h1
    go_enter Tryz.func17, Tryz.ntmps17
    go_wp2
    exact bodyPost_ret (v := .tuple #[.agg #[.int .i64 (4), .int .i64 (p), .int .i64 (0), .string (⟨#[]⟩)], .int .i64 ((p : Int) + 1), .int .i64 0]) (by simp [results, Tryz.results17, go_sem]) rfl ⟨rfl, next_trans (alloc_below _ _) (alloc_below _ _)⟩
  · have d0 : ((c.toNat : Int) == 40) = false := by simp; omega
    have d1 : ((c.toNat : Int) == 41) = true := by simp; omega
    clear h1
    go_enter Tryz.func17, Tryz.ntmps17
    go_wp2
    exact bodyPost_ret (v := .tuple #[.agg #[.int .i64 (5), .int .i64 (p), .int .i64 (0), .string (⟨#[]⟩)], .int .i64 ((p : Int) + 1), .int .i64 0]) (by simp [results, Tryz.results17, go_sem]) rfl ⟨rfl, next_trans (alloc_below _ _) (alloc_below _ _)⟩
  · have d0 : ((c.toNat : Int) == 40) = false := by simp; omega
    have d1 : ((c.toNat : Int) == 41) = false := by simp; omega
    have d2 : ((c.toNat : Int) == 126) = true := by simp; omega
    clear h1
    go_enter Tryz.func17, Tryz.ntmps17
    go_wp2
    exact bodyPost_ret (v := .tuple #[.agg #[.int .i64 (8), .int .i64 (p), .int .i64 (0), .string (⟨#[]⟩)], .int .i64 ((p : Int) + 1), .int .i64 0]) (by simp [results, Tryz.results17, go_sem]) rfl ⟨rfl, next_trans (alloc_below _ _) (alloc_below _ _)⟩

set_option maxHeartbeats 4000000 in
set_option maxRecDepth 4000 in
theorem rone_str (b o n cap p : Nat) (l : List UInt8) (c : UInt8) (w : World) (hl : l.length = n) (hn : n ≤ 100000) (hp : p < n) (hb : Bs w b o l) (hc : l[p]? = some c) (h34 : c.toNat = 34) (R : Rd) (HR : Hid (strA (l.drop (p + 1)) [] 1 = R)) :
    Calls Tryz.prog 17 #[.slice (some ⟨b, o, none⟩) n cap, .int .i64 (p : Int)] w fun e w' => ROne p R e ∧ Below w.heap.size w w' := by
  have hpi : (p : Int) < (n : Int) := by omega
  have c0 := hb.get hc
  have c1 : ((w.alloc (.cells #[.int .i64 0, .int .i64 0, .int .i64 0, .string ⟨#[]⟩] 41)).alloc (.cells #[.int .i64 0, .int .i64 (p : Int), .int .i64 0, .string ⟨#[]⟩] 41)).cell? ⟨b, o + p, none⟩ = some (.int .u8 (c.toNat : Int)) := alloc_cell (alloc_cell c0)
  have HB0 : Hid (Below w.heap.size w ((w.alloc (.cells #[.int .i64 0, .int .i64 0, .int .i64 0, .string ⟨#[]⟩] 41)).alloc (.cells #[.int .i64 0, .int .i64 (p : Int), .int .i64 0, .string ⟨#[]⟩] 41))) := next_trans (alloc_below _ _) (alloc_below _ _)
  have HI : Hid (Bs w b o l) := hb
  have HL : Hid (l.length = n) := hl
  have d40 : ((c.toNat : Int) == 40) = false := by simp; omega
  have d41 : ((c.toNat : Int) == 41) = false := by simp; omega
  have d126 : ((c.toNat : Int) == 126) = false := by simp; omega
  have d34 : ((c.toNat : Int) == 34) = true := by simp; omega
  have HT : Hid (∀ w' : World, Below w.heap.size w w' → Calls Tryz.prog 30 #[.slice (some ⟨b, o, none⟩) n cap, .int .i64 ((p : Int) + 1)] w' fun e w2 => e = .returned (.tuple #[.string (baL R.s), .int .i64 (offZ p R), .int .i64 R.e]) ∧ Below w'.heap.size w' w2) :=
    fun w' hb => rtext_str b o n cap p l w' HL.out (HI.out.next hb) hn (by omega) R HR
  have HK : Hid (R.e = 0 → R.k = 3 ∧ R.i = 0) := by
    intro h; rw [← HR.out] at h ⊢; exact str_kind _ _ _ h
  clear hb c0 hc hl h34
  obtain ⟨Z, HZ⟩ : ∃ Z, Hid (offZ p R = Z) := ⟨_, rfl⟩
  rw [HZ.out] at HT
  go_enter Tryz.func17, Tryz.ntmps17
  go_wp2_with fail
  refine (HT.out _ HB0.out).mono ?_
  rintro e w1 ⟨rfl, hb1⟩
  have HB : Hid (Below w.heap.size w w1) := next_trans HB0.out hb1
  obtain ⟨hcc, hff⟩ := bcells hb1
  obtain ⟨r0, r1, r2, r3⟩ := four_cells hb1
  clear hb1
  go_wp2
  refine bodyPost_ret (v := .tuple #[.agg #[.int .i64 (3), .int .i64 (p), .int .i64 (0), .string (baL R.s)], .int .i64 Z, .int .i64 R.e]) (by simp [results, Tryz.results17, go_sem, r0, r1, r2, r3]) rfl ⟨rone_at p R 3 Z ?_, below4 ((HB.out.setCell (le_block1 w 0) _).setCell (le_block1 w 3) _) _ (Nat.le_refl _) _ _ _ _⟩
  intro h
  obtain ⟨h1, h2⟩ := HK.out h
  refine ⟨h1.symm, h2, ?_⟩
  rw [← HZ.out]
  unfold offZ
  rw [if_pos h]
theorem plain_e (t : List UInt8) : (plainR t).e = nameE t := by unfold plainR; split <;> rename_i h <;> first | exact h.symm | rfl
theorem plain_s (t : List UInt8) : (plainR t).s = nameS t := by unfold plainR nameS; split <;> rfl
theorem plain_k (t : List UInt8) (h : (plainR t).e = 0) : (plainR t).k = 6 ∧ (plainR t).i = 0 ∧ (plainR t).z = 1 + nameZ t := by
  rw [plain_e] at h
  rw [plain_ok h]; exact ⟨rfl, rfl, rfl⟩

set_option maxHeartbeats 4000000 in
set_option maxRecDepth 4000 in
theorem rone_plain0 (b o n cap p : Nat) (l : List UInt8) (c : UInt8) (w : World) (hl : l.length = n) (hn : n ≤ 100000) (hcap : n ≤ cap) (hb : Bs w b o l) (hc : l[p]? = some c) (h63 : c.toNat = 63) (h1 : p + 1 = n) :
    Calls Tryz.prog 17 #[.slice (some ⟨b, o, none⟩) n cap, .int .i64 (p : Int)] w fun e w' => ROne p (plainR (l.drop (p + 1))) e ∧ Below w.heap.size w w' := by
  have hpi : (p : Int) < (n : Int) := by omega
  have c0 := hb.get hc
  have c1 : ((w.alloc (.cells #[.int .i64 0, .int .i64 0, .int .i64 0, .string ⟨#[]⟩] 41)).alloc (.cells #[.int .i64 0, .int .i64 (p : Int), .int .i64 0, .string ⟨#[]⟩] 41)).cell? ⟨b, o + p, none⟩ = some (.int .u8 (c.toNat : Int)) := alloc_cell (alloc_cell c0)
  have HB0 : Hid (Below w.heap.size w ((w.alloc (.cells #[.int .i64 0, .int .i64 0, .int .i64 0, .string ⟨#[]⟩] 41)).alloc (.cells #[.int .i64 0, .int .i64 (p : Int), .int .i64 0, .string ⟨#[]⟩] 41))) := next_trans (alloc_below _ _) (alloc_below _ _)
  have HI : Hid (Bs w b o l) := hb
  have HL : Hid (l.length = n) := hl
  have d40 : ((c.toNat : Int) == 40) = false := by simp; omega
  have d41 : ((c.toNat : Int) == 41) = false := by simp; omega
  have d126 : ((c.toNat : Int) == 126) = false := by simp; omega
  have d34 : ((c.toNat : Int) == 34) = false := by simp; omega
  have d63 : ((c.toNat : Int) == 63) = true := by simp; omega
  have hli : ¬ (p : Int) + 1 < (n : Int) := by omega
  have HT : Hid (∀ w' : World, Below w.heap.size w w' → Calls Tryz.prog 31 #[.slice (some ⟨b, o, none⟩) n cap, .int .i64 ((p : Int) + 1)] w' fun e w2 => e = .returned (.tuple #[.string (baL (nameS (l.drop (p + 1)))), .int .i64 (nameN (p + 1) (l.drop (p + 1))), .int .i64 (nameE (l.drop (p + 1)))]) ∧ w2 = w') :=
    fun w' hb => rname_any (some ⟨b, o, none⟩) n cap (p + 1) _ l w' (by omega) HL.out (HI.out.next hb).isB hn hcap (by omega)
  have he := plain_e (l.drop (p + 1))
  have hs := plain_s (l.drop (p + 1))
  have HK := plain_k (l.drop (p + 1))
  have HN := nameN_ok (u := l.drop (p + 1)) (p + 1)
  obtain ⟨t, Ht⟩ : ∃ t, Hid (l.drop (p + 1) = t) := ⟨_, rfl⟩
  rw [Ht.out] at HT he hs HK HN ⊢
  rw [← he, ← hs] at HT
  obtain ⟨m, Hm⟩ : ∃ m, Hid (plainR t = m) := ⟨_, rfl⟩
  rw [Hm.out] at HT HK he ⊢
  have HK2 : Hid (m.e = 0 → m.k = 6 ∧ m.i = 0 ∧ nameN (p + 1) t = (p : Int) + (m.z : Int)) := by
    intro h
    obtain ⟨h1, h2, h3⟩ := HK h
    refine ⟨h1, h2, ?_⟩
    rw [HN (by rw [← he]; exact h), h3]; omega
  obtain ⟨Z, HZ⟩ : ∃ Z, Hid (nameN (p + 1) t = Z) := ⟨_, rfl⟩
  rw [HZ.out] at HT HK2
  clear hb c0 hc hl h63 he hs HK HN
  go_enter Tryz.func17, Tryz.ntmps17
  go_wp2_with fail
  refine (HT.out _ HB0.out).mono ?_
  rintro e w1 ⟨rfl, rfl⟩
  go_wp2
  refine bodyPost_ret (v := .tuple #[.agg #[.int .i64 (6), .int .i64 (p), .int .i64 (0), .string (baL m.s)], .int .i64 Z, .int .i64 m.e]) (by simp [results, Tryz.results17, go_sem]) rfl ⟨rone_at p m 6 Z ?_, next_trans (alloc_below _ _) (alloc_below _ _)⟩
  intro h
  obtain ⟨h1, h2, h3⟩ := HK2.out h
  exact ⟨h1.symm, h2, h3⟩

set_option maxHeartbeats 4000000 in
set_option maxRecDepth 4000 in
theorem rone_plain1 (b o n cap p : Nat) (l : List UInt8) (c : UInt8) (w : World) (hl : l.length = n) (hn : n ≤ 100000) (hcap : n ≤ cap) (hb : Bs w b o l) (hc : l[p]? = some c) (h63 : c.toNat = 63) (d : UInt8) (hd : l[p + 1]? = some d) (h42 : d.toNat ≠ 42) (h1 : p + 1 < n) :
    Calls Tryz.prog 17 #[.slice (some ⟨b, o, none⟩) n cap, .int .i64 (p : Int)] w fun e w' => ROne p (plainR (l.drop (p + 1))) e ∧ Below w.heap.size w w' := by
  have hpi : (p : Int) < (n : Int) := by omega
  have c0 := hb.get hc
  have c1 : ((w.alloc (.cells #[.int .i64 0, .int .i64 0, .int .i64 0, .string ⟨#[]⟩] 41)).alloc (.cells #[.int .i64 0, .int .i64 (p : Int), .int .i64 0, .string ⟨#[]⟩] 41)).cell? ⟨b, o + p, none⟩ = some (.int .u8 (c.toNat : Int)) := alloc_cell (alloc_cell c0)
  have HB0 : Hid (Below w.heap.size w ((w.alloc (.cells #[.int .i64 0, .int .i64 0, .int .i64 0, .string ⟨#[]⟩] 41)).alloc (.cells #[.int .i64 0, .int .i64 (p : Int), .int .i64 0, .string ⟨#[]⟩] 41))) := next_trans (alloc_below _ _) (alloc_below _ _)
  have HI : Hid (Bs w b o l) := hb
  have HL : Hid (l.length = n) := hl
  have d40 : ((c.toNat : Int) == 40) = false := by simp; omega
  have d41 : ((c.toNat : Int) == 41) = false := by simp; omega
  have d126 : ((c.toNat : Int) == 126) = false := by simp; omega
  have d34 : ((c.toNat : Int) == 34) = false := by simp; omega
  have d63 : ((c.toNat : Int) == 63) = true := by simp; omega
  have hli : (p : Int) + 1 < (n : Int) := by omega
  have c2 : ((w.alloc (.cells #[.int .i64 0, .int .i64 0, .int .i64 0, .string ⟨#[]⟩] 41)).alloc (.cells #[.int .i64 0, .int .i64 (p : Int), .int .i64 0, .string ⟨#[]⟩] 41)).cell? ⟨b, o + (p + 1), none⟩ = some (.int .u8 (d.toNat : Int)) := alloc_cell (alloc_cell (hb.get hd))
  have d42 : ((d.toNat : Int) == 42) = false := by simp; omega
  have HT : Hid (∀ w' : World, Below w.heap.size w w' → Calls Tryz.prog 31 #[.slice (some ⟨b, o, none⟩) n cap, .int .i64 ((p : Int) + 1)] w' fun e w2 => e = .returned (.tuple #[.string (baL (nameS (l.drop (p + 1)))), .int .i64 (nameN (p + 1) (l.drop (p + 1))), .int .i64 (nameE (l.drop (p + 1)))]) ∧ w2 = w') :=
    fun w' hb => rname_any (some ⟨b, o, none⟩) n cap (p + 1) _ l w' (by omega) HL.out (HI.out.next hb).isB hn hcap (by omega)
  have he := plain_e (l.drop (p + 1))
  have hs := plain_s (l.drop (p + 1))
  have HK := plain_k (l.drop (p + 1))
  have HN := nameN_ok (u := l.drop (p + 1)) (p + 1)
  obtain ⟨t, Ht⟩ : ∃ t, Hid (l.drop (p + 1) = t) := ⟨_, rfl⟩
  rw [Ht.out] at HT he hs HK HN ⊢
  rw [← he, ← hs] at HT
  obtain ⟨m, Hm⟩ : ∃ m, Hid (plainR t = m) := ⟨_, rfl⟩
  rw [Hm.out] at HT HK he ⊢
  have HK2 : Hid (m.e = 0 → m.k = 6 ∧ m.i = 0 ∧ nameN (p + 1) t = (p : Int) + (m.z : Int)) := by
    intro h
    obtain ⟨h1, h2, h3⟩ := HK h
    refine ⟨h1, h2, ?_⟩
    rw [HN (by rw [← he]; exact h), h3]; omega
  obtain ⟨Z, HZ⟩ : ∃ Z, Hid (nameN (p + 1) t = Z) := ⟨_, rfl⟩
  rw [HZ.out] at HT HK2
  clear hb c0 hc hl h63 he hs HK HN hd h42
  go_enter Tryz.func17, Tryz.ntmps17
  go_wp2_with fail
  refine (HT.out _ HB0.out).mono ?_
  rintro e w1 ⟨rfl, rfl⟩
  go_wp2
  refine bodyPost_ret (v := .tuple #[.agg #[.int .i64 (6), .int .i64 (p), .int .i64 (0), .string (baL m.s)], .int .i64 Z, .int .i64 m.e]) (by simp [results, Tryz.results17, go_sem]) rfl ⟨rone_at p m 6 Z ?_, next_trans (alloc_below _ _) (alloc_below _ _)⟩
  intro h
  obtain ⟨h1, h2, h3⟩ := HK2.out h
  exact ⟨h1.symm, h2, h3⟩
end Go.Proofs.YtlnkeebfaninfaaGreatDoor
