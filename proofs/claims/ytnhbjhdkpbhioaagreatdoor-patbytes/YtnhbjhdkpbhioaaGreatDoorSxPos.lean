import Derived.Test.YtnhbjhdkpbhioaaGreatDoorG9
namespace Go.Proofs.YtnhbjhdkpbhioaaGreatDoor
open Go.RowKit
theorem rdL_pos : ∀ (f d a n : Nat) (l : List Tk) (acc : List Nd) (x : Nd) (n' : Nat) (r' : List Tk), rdL f d a n l acc = .ok (x, n', r') → x.a = a
  | 0, d, a, n, l, acc, x, n', r', h => no_ok h
  | f + 1, d, a, n, [], acc, x, n', r', h => by rw [rdL_nil] at h; exact no_ok h
  | f + 1, d, a, n, t :: r, acc, x, n', r', h => by
    by_cases h5 : t.k = 5
    · rw [rdL_close _ _ _ _ _ _ _ h5] at h
      obtain ⟨rfl, _, _⟩ := ok_inj h
      rfl
    · cases hx : rdN f (d + 1) n (t :: r) with
      | error p =>
        obtain ⟨a', e⟩ := p
        rw [rdL_bad _ _ _ _ _ _ _ _ _ h5 hx] at h
        exact no_ok h
      | ok p =>
        obtain ⟨y, m, q⟩ := p
        rw [rdL_ok _ _ _ _ _ _ _ _ _ _ h5 hx] at h
        exact rdL_pos f d a m q _ x n' r' h
theorem rdN_pos {f d n : Nat} {t : Tk} {r : List Tk} {x : Nd} {n' : Nat} {r' : List Tk} (h : rdN f d n (t :: r) = .ok (x, n', r')) : x.a = t.a := by
  rw [rdN_cons] at h
  split at h
  · exact no_ok h
  split at h
  · exact no_ok h
  split at h
  · split at h
    · exact no_ok h
    · exact rdL_pos _ _ _ _ _ _ _ _ _ h
  split at h
  · obtain ⟨u, q, _, _, _, rfl, _, _⟩ := notR_ok h
    rfl
  · obtain ⟨rfl, _, _⟩ := ok_inj h
    rfl
theorem rdT_pos : ∀ (f n : Nat) (l : List Tk) (acc : List Nd), n ≤ 4096 → ∀ x ∈ (rdT f n l acc).l, x ∈ acc ∨ ∃ t ∈ l, x.a = t.a
  | 0, n, l, acc, _, x, hx => by cases hx
  | f + 1, n, [], acc, _, x, hx => by rw [rdT_nil] at hx; exact .inl hx
  | f + 1, n, t :: r, acc, hn, x, hx => by
    cases hy : rdN f 0 n (t :: r) with
    | error p =>
      obtain ⟨a', e⟩ := p
      rw [rdT_bad _ _ _ _ _ _ _ hy] at hx
      cases hx
    | ok p =>
      obtain ⟨y, m, q⟩ := p
      rw [rdT_ok _ _ _ _ _ _ _ _ hy] at hx
      have hl := rd_len f 0 n (t :: r) y m q hn hy
      have hs := rd_sub f 0 n (t :: r) y m q hn hy
      rcases rdT_pos f m q (acc ++ [y]) hl.2.2.1 x hx with h | ⟨u, h1, h2⟩
      · rcases List.mem_append.1 h with h | h
        · exact .inl h
        · rw [List.mem_singleton.1 h]
          exact .inr ⟨t, List.mem_cons_self, rdN_pos hy⟩
      · exact .inr ⟨u, hs u h1, h2⟩
theorem readQ_pos (l : List UInt8) : ∀ x ∈ (readQ l).l, x.a < l.length := fun x hx => by
  unfold readQ at hx
  split at hx
  · rcases rdT_pos _ 0 _ [] (by omega) x hx with h | ⟨t, ht, h2⟩
    · cases h
    · have := scan_at (l.drop 0) 0 0 [] t ht
      rcases this with h | h
      · cases h
      · rw [List.drop_zero] at h; omega
  · cases hx
end Go.Proofs.YtnhbjhdkpbhioaaGreatDoor
