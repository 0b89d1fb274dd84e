import Derived.WalkSmall
import Derived.Deep.AppendLies
import Derived.Test.YtnhbjhdkpbhioaaGreatDoorG8
namespace Go.Proofs.YtnhbjhdkpbhioaaGreatDoor
open Go.RowKit
structure Nd where
  k : Int
  a : Nat
  i : Int
  s : List UInt8
  l : List Nd
def cntL : List Nd → Nat
  | [] => 0
  | ⟨_, _, _, _, l⟩ :: r => 1 + cntL l + cntL r
def cntN (x : Nd) : Nat := 1 + cntL x.l
theorem cntN_mk (k : Int) (a : Nat) (i : Int) (s : List UInt8) (l : List Nd) : cntN (.mk k a i s l) = 1 + cntL l := rfl
theorem cntL_nil : cntL [] = 0 := by rw [cntL]
theorem cntL_cons (x : Nd) (r : List Nd) : cntL (x :: r) = cntN x + cntL r := by cases x; rw [cntL]; rfl
theorem cntN_pos (x : Nd) : 1 ≤ cntN x := by cases x; rw [cntN_mk]; omega
theorem cntL_len : ∀ x : List Nd, x.length ≤ cntL x
  | [] => by simp
  | a :: r => by have := cntL_len r; have := cntN_pos a; rw [cntL_cons, List.length_cons]; omega
theorem cntL_mem : ∀ (l : List Nd) (x : Nd), x ∈ l → cntN x ≤ cntL l
  | [], x, h => by simp at h
  | a :: r, x, h => by
    rw [cntL_cons]
    rcases List.mem_cons.1 h with rfl | h
    · omega
    · have := cntL_mem r x h; omega
def txtR : List Nd → List UInt8
  | [] => []
  | ⟨k, _, i, s, l⟩ :: r => 32 :: ((if k = 0 then 40 :: ((txtR l).drop 1 ++ [41]) else if k = 8 then 126 :: (txtR l).drop 1 else tokL k i s) ++ txtR r)
def txtB (l : List Nd) : List UInt8 := (txtR l).drop 1
def txtN (x : Nd) : List UInt8 := if x.k = 0 then 40 :: (txtB x.l ++ [41]) else if x.k = 8 then 126 :: txtB x.l else tokL x.k x.i x.s
theorem txtN_mk (k : Int) (a : Nat) (i : Int) (s : List UInt8) (l : List Nd) : txtN (.mk k a i s l) = if k = 0 then 40 :: (txtB l ++ [41]) else if k = 8 then 126 :: txtB l else tokL k i s := rfl
theorem txtR_nil : txtR [] = [] := by rw [txtR]
theorem txtR_cons (x : Nd) (r : List Nd) : txtR (x :: r) = 32 :: (txtN x ++ txtR r) := by cases x; rw [txtR]; rfl
theorem txtB_nil : txtB [] = [] := by unfold txtB; rw [txtR_nil]; rfl
theorem txtB_cons (x : Nd) (r : List Nd) : txtB (x :: r) = txtN x ++ txtR r := by unfold txtB; rw [txtR_cons]; rfl
def linesN : List Nd → List UInt8
  | [] => []
  | x :: r => txtN x ++ 10 :: linesN r
def mapL (g : Nat → Nat) : List Nd → List Nd
  | [] => []
  | ⟨k, a, i, s, l⟩ :: r => ⟨k, g a, i, s, mapL g l⟩ :: mapL g r
def mapN (g : Nat → Nat) (x : Nd) : Nd := ⟨x.k, g x.a, x.i, x.s, mapL g x.l⟩
theorem mapN_mk (g : Nat → Nat) (k : Int) (a : Nat) (i : Int) (s : List UInt8) (l : List Nd) : mapN g (.mk k a i s l) = .mk k (g a) i s (mapL g l) := rfl
theorem mapL_nil (g : Nat → Nat) : mapL g [] = [] := by rw [mapL]
theorem mapL_cons (g : Nat → Nat) (x : Nd) (r : List Nd) : mapL g (x :: r) = mapN g x :: mapL g r := by cases x; rw [mapL]; rfl
theorem mapL_map (g : Nat → Nat) : ∀ (x : List Nd), mapL g x = x.map (mapN g)
  | [] => by rw [mapL_nil]; rfl
  | a :: r => by rw [mapL_cons, mapL_map g r]; rfl
theorem mapL_len (g : Nat → Nat) (x : List Nd) : (mapL g x).length = x.length := by rw [mapL_map]; simp
def zP (_ : Nat) : Nat := 0
def simN (x y : Nd) : Prop := mapN zP x = mapN zP y
theorem sim_parts {k k' i i' : Int} {a a' : Nat} {s s' : List UInt8} {l l' : List Nd} (h : simN (.mk k a i s l) (.mk k' a' i' s' l')) : k = k' ∧ i = i' ∧ s = s' ∧ l.length = l'.length ∧ mapL zP l = mapL zP l' := by
  unfold simN at h
  rw [mapN_mk, mapN_mk] at h
  injection h with h1 h2 h3 h4 h5
  exact ⟨h1, h3, h4, by rw [← mapL_len zP l, ← mapL_len zP l', h5], h5⟩
theorem sim_at {l l' : List Nd} {j : Nat} {x x' : Nd} (h : mapL zP l = mapL zP l') (h1 : l[j]? = some x) (h2 : l'[j]? = some x') : simN x x' := by
  rw [mapL_map, mapL_map] at h
  have := congrArg (fun q => q[j]?) h
  simp only [List.getElem?_map, h1, h2, Option.map_some] at this
  exact Option.some.inj this
theorem sim_refl (x : Nd) : simN x x := rfl
abbrev NR := Except (Nat × Int) (Nd × Nat × List Tk)
structure OutN where
  l : List Nd
  a : Nat
  e : Int
def leafN (t : Tk) : Nd := .mk t.k t.a t.i t.s []
def markT (k : Int) : Bool := decide (k = 4 ∨ k = 5 ∨ k = 8)
def notR (t : Tk) (n : Nat) : List Tk → NR
  | [] => .error (t.a, 3)
  | u :: r => if markT u.k = true then .error (t.a, 2) else if n = 4096 then .error (u.a, 4) else .ok (.mk 8 t.a 0 [] [leafN u], n + 1, r)
def ndOf (L : Nat → Nat → List Tk → NR) (d n : Nat) : List Tk → NR
  | [] => .error (0, 0)
  | t :: r =>
    if t.k = 5 then .error (t.a, 2) else if n = 4096 then .error (t.a, 4)
    else if t.k = 4 then (if d = 32 then .error (t.a, 4) else L t.a (n + 1) r)
    else if t.k = 8 then notR t (n + 1) r
    else .ok (leafN t, n + 1, r)
def rdL : Nat → Nat → Nat → Nat → List Tk → List Nd → NR
  | 0, _, _, _, _, _ => .error (0, 0)
  | _ + 1, _, a, _, [], _ => .error (a, 3)
  | f + 1, d, a, n, t :: r, acc =>
    if t.k = 5 then .ok (.mk 0 a 0 [] acc, n, r)
    else match ndOf (fun a' n' r' => rdL f (d + 1) a' n' r' []) (d + 1) n (t :: r) with
      | .error p => .error p
      | .ok (x, n', r') => rdL f d a n' r' (acc ++ [x])
def rdN (f d n : Nat) (l : List Tk) : NR := ndOf (fun a' n' r' => rdL f d a' n' r' []) d n l
def rdT : Nat → Nat → List Tk → List Nd → OutN
  | 0, _, _, _ => ⟨[], 0, 0⟩
  | _ + 1, _, [], acc => ⟨acc, 0, 0⟩
  | f + 1, n, t :: r, acc => match rdN f 0 n (t :: r) with
      | .error p => ⟨[], p.1, p.2⟩
      | .ok (x, n', r') => rdT f n' r' (acc ++ [x])
theorem rdN_cons (f d n : Nat) (t : Tk) (r : List Tk) : rdN f d n (t :: r) =
    if t.k = 5 then .error (t.a, 2) else if n = 4096 then .error (t.a, 4)
    else if t.k = 4 then (if d = 32 then .error (t.a, 4) else rdL f d t.a (n + 1) r [])
    else if t.k = 8 then notR t (n + 1) r
    else .ok (leafN t, n + 1, r) := rfl
theorem rdL_nil (f d a n : Nat) (acc : List Nd) : rdL (f + 1) d a n [] acc = .error (a, 3) := rfl
theorem rdL_cons (f d a n : Nat) (t : Tk) (r : List Tk) (acc : List Nd) : rdL (f + 1) d a n (t :: r) acc =
    if t.k = 5 then .ok (.mk 0 a 0 [] acc, n, r)
    else match rdN f (d + 1) n (t :: r) with
      | .error p => .error p
      | .ok (x, n', r') => rdL f d a n' r' (acc ++ [x]) := rfl
theorem rdL_close (f d a n : Nat) (t : Tk) (r : List Tk) (acc : List Nd) (h : t.k = 5) : rdL (f + 1) d a n (t :: r) acc = .ok (.mk 0 a 0 [] acc, n, r) := by rw [rdL_cons, if_pos h]
theorem rdL_bad (f d a n a' : Nat) (e : Int) (t : Tk) (r : List Tk) (acc : List Nd) (h : t.k ≠ 5) (h2 : rdN f (d + 1) n (t :: r) = .error (a', e)) : rdL (f + 1) d a n (t :: r) acc = .error (a', e) := by rw [rdL_cons, if_neg h, h2]
theorem rdL_ok (f d a n n' : Nat) (x : Nd) (t : Tk) (r r' : List Tk) (acc : List Nd) (h : t.k ≠ 5) (h2 : rdN f (d + 1) n (t :: r) = .ok (x, n', r')) : rdL (f + 1) d a n (t :: r) acc = rdL f d a n' r' (acc ++ [x]) := by rw [rdL_cons, if_neg h, h2]
theorem rdT_nil (f n : Nat) (acc : List Nd) : rdT (f + 1) n [] acc = ⟨acc, 0, 0⟩ := rfl
theorem rdT_cons (f n : Nat) (t : Tk) (r : List Tk) (acc : List Nd) : rdT (f + 1) n (t :: r) acc = match rdN f 0 n (t :: r) with
      | .error p => ⟨[], p.1, p.2⟩
      | .ok (x, n', r') => rdT f n' r' (acc ++ [x]) := rfl
theorem rdT_bad (f n a' : Nat) (e : Int) (t : Tk) (r : List Tk) (acc : List Nd) (h2 : rdN f 0 n (t :: r) = .error (a', e)) : rdT (f + 1) n (t :: r) acc = ⟨[], a', e⟩ := by rw [rdT_cons, h2]
theorem rdT_ok (f n n' : Nat) (x : Nd) (t : Tk) (r r' : List Tk) (acc : List Nd) (h2 : rdN f 0 n (t :: r) = .ok (x, n', r')) : rdT (f + 1) n (t :: r) acc = rdT f n' r' (acc ++ [x]) := by rw [rdT_cons, h2]
theorem no_ok {p : Nat × Int} {q : Nd × Nat × List Tk} {P : Prop} (h : (Except.error p : NR) = .ok q) : P := by cases h
theorem no_bad {p : Nat × Int} {q : Nd × Nat × List Tk} {P : Prop} (h : (Except.ok q : NR) = .error p) : P := by cases h
theorem ok_inj {x x' : Nd} {n n' : Nat} {r r' : List Tk} (h : (Except.ok (x, n, r) : NR) = .ok (x', n', r')) : x = x' ∧ n = n' ∧ r = r' := by cases h; exact ⟨rfl, rfl, rfl⟩
theorem bad_inj {a a' : Nat} {e e' : Int} (h : (Except.error (a, e) : NR) = .error (a', e')) : a = a' ∧ e = e' := by cases h; exact ⟨rfl, rfl⟩
theorem notR_ok {t : Tk} {n n' : Nat} {l r' : List Tk} {x : Nd} (h : notR t n l = .ok (x, n', r')) : ∃ u r, l = u :: r ∧ markT u.k = false ∧ n ≠ 4096 ∧ x = .mk 8 t.a 0 [] [leafN u] ∧ n' = n + 1 ∧ r' = r := by
  cases l with
  | nil => exact no_ok h
  | cons u r =>
    have h' : (if markT u.k = true then (.error (t.a, 2) : NR) else if n = 4096 then .error (u.a, 4) else .ok (.mk 8 t.a 0 [] [leafN u], n + 1, r)) = .ok (x, n', r') := h
    split at h'
    · exact no_ok h'
    · rename_i h1
      split at h'
      · exact no_ok h'
      · rename_i h2
        obtain ⟨e1, e2, e3⟩ := ok_inj h'
        exact ⟨u, r, rfl, by simpa using h1, h2, e1.symm, e2.symm, e3.symm⟩
theorem notR_bad {t : Tk} {n a : Nat} {l : List Tk} {e : Int} (h : notR t n l = .error (a, e)) : (e = 2 ∨ e = 3 ∨ e = 4) ∧ (a = t.a ∨ ∃ u ∈ l, u.a = a) := by
  cases l with
  | nil =>
    obtain ⟨e1, e2⟩ := bad_inj h
    exact ⟨by omega, .inl e1.symm⟩
  | cons u r =>
    have h' : (if markT u.k = true then (.error (t.a, 2) : NR) else if n = 4096 then .error (u.a, 4) else .ok (.mk 8 t.a 0 [] [leafN u], n + 1, r)) = .error (a, e) := h
    split at h'
    · obtain ⟨e1, e2⟩ := bad_inj h'
      exact ⟨by omega, .inl e1.symm⟩
    · split at h'
      · obtain ⟨e1, e2⟩ := bad_inj h'
        exact ⟨by omega, .inr ⟨u, List.mem_cons_self, e1⟩⟩
      · exact no_bad h'
theorem rdN_ok {f d n n' : Nat} {l r' : List Tk} {x : Nd} (h : rdN f d n l = .ok (x, n', r')) : ∃ t r, l = t :: r ∧ t.k ≠ 5 ∧ n ≠ 4096 ∧
    ((t.k = 4 ∧ d ≠ 32 ∧ rdL f d t.a (n + 1) r [] = .ok (x, n', r')) ∨ (t.k = 8 ∧ notR t (n + 1) r = .ok (x, n', r')) ∨ (t.k ≠ 4 ∧ t.k ≠ 8 ∧ x = leafN t ∧ n' = n + 1 ∧ r' = r)) := by
  cases l with
  | nil => exact no_ok h
  | cons t r =>
    rw [rdN_cons] at h
    split at h
    · exact no_ok h
    rename_i k5
    split at h
    · exact no_ok h
    rename_i hn
    split at h
    · rename_i k4
      split at h
      · exact no_ok h
      · rename_i hd
        exact ⟨t, r, rfl, k5, hn, .inl ⟨k4, hd, h⟩⟩
    rename_i k4
    split at h
    · rename_i k8
      exact ⟨t, r, rfl, k5, hn, .inr (.inl ⟨k8, h⟩)⟩
    · rename_i k8
      obtain ⟨e1, e2, e3⟩ := ok_inj h
      exact ⟨t, r, rfl, k5, hn, .inr (.inr ⟨k4, k8, e1.symm, e2.symm, e3.symm⟩)⟩
theorem rdN_bad {f d n a : Nat} {l : List Tk} {e : Int} (hl : l ≠ []) (h : rdN f d n l = .error (a, e)) : ∃ t r, l = t :: r ∧ ((a = t.a ∧ (e = 2 ∨ e = 4)) ∨ (t.k = 4 ∧ n ≠ 4096 ∧ rdL f d t.a (n + 1) r [] = .error (a, e)) ∨ notR t (n + 1) r = .error (a, e)) := by
  cases l with
  | nil => exact absurd rfl hl
  | cons t r =>
    refine ⟨t, r, rfl, ?_⟩
    rw [rdN_cons] at h
    split at h
    · obtain ⟨e1, e2⟩ := bad_inj h; exact .inl ⟨e1.symm, .inl e2.symm⟩
    split at h
    · obtain ⟨e1, e2⟩ := bad_inj h; exact .inl ⟨e1.symm, .inr e2.symm⟩
    rename_i hn
    split at h
    · rename_i k4
      split at h
      · obtain ⟨e1, e2⟩ := bad_inj h; exact .inl ⟨e1.symm, .inr e2.symm⟩
      · exact .inr (.inl ⟨k4, hn, h⟩)
    split at h
    · exact .inr (.inr h)
    · exact no_bad h
theorem rd_ind {PL PN : Nat → Prop} (h0 : PL 0) (hN : ∀ f, PL f → PN f) (hL : ∀ f, PL f → PN f → PL (f + 1)) : ∀ f, PL f ∧ PN f
  | 0 => ⟨h0, hN 0 h0⟩
  | f + 1 => ⟨hL f (rd_ind h0 hN hL f).1 (rd_ind h0 hN hL f).2, hN _ (hL f (rd_ind h0 hN hL f).1 (rd_ind h0 hN hL f).2)⟩
def LenL (f : Nat) : Prop := ∀ d a n l acc x n' r', n ≤ 4096 → rdL f d a n l acc = .ok (x, n', r') → r'.length + 1 ≤ l.length ∧ n ≤ n' ∧ n' ≤ 4096 ∧ n' + r'.length ≤ n + l.length ∧ ∃ p, l = p ++ r'
def LenN (f : Nat) : Prop := ∀ d n l x n' r', n ≤ 4096 → rdN f d n l = .ok (x, n', r') → r'.length + 1 ≤ l.length ∧ n + 1 ≤ n' ∧ n' ≤ 4096 ∧ n' + r'.length ≤ n + l.length ∧ ∃ p, l = p ++ r'
theorem rd_lens (f : Nat) : LenL f ∧ LenN f := by
  refine rd_ind (PL := LenL) (PN := LenN) ?_ ?_ ?_ f
  · intro d a n l acc x n' r' _ h
    exact no_ok h
  · intro f ihL d n l x n' r' hn h
    obtain ⟨t, r, rfl, _, hn2, h⟩ := rdN_ok h
    rcases h with ⟨_, _, h⟩ | ⟨_, h⟩ | ⟨_, _, _, rfl, rfl⟩
    · obtain ⟨h1, h2, h3, h4, p, h5⟩ := ihL d t.a (n + 1) r [] x n' r' (by omega) h
      rw [List.length_cons]
      exact ⟨by omega, by omega, h3, by omega, t :: p, by rw [h5]; rfl⟩
    · obtain ⟨u, q, rfl, _, h2, _, rfl, rfl⟩ := notR_ok h
      rw [List.length_cons, List.length_cons]
      exact ⟨by omega, by omega, by omega, by omega, [t, u], rfl⟩
    · rw [List.length_cons]
      exact ⟨by omega, by omega, by omega, by omega, [t], rfl⟩
  · intro f ihL ihN d a n l acc x n' r' hn h
    cases l with
    | nil => exact no_ok h
    | cons t r =>
      by_cases hk : t.k = 5
      · rw [rdL_close _ _ _ _ _ _ _ hk] at h
        obtain ⟨_, rfl, rfl⟩ := ok_inj h
        rw [List.length_cons]
        exact ⟨by omega, by omega, by omega, by omega, [t], rfl⟩
      · cases hx : rdN f (d + 1) n (t :: r) with
        | error p => obtain ⟨a', e⟩ := p; rw [rdL_bad _ _ _ _ _ _ _ _ _ hk hx] at h; exact no_ok h
        | ok p =>
          obtain ⟨y, m, q⟩ := p
          rw [rdL_ok _ _ _ _ _ _ _ _ _ _ hk hx] at h
          obtain ⟨a1, a2, a3, a4, p, a5⟩ := ihN (d + 1) n (t :: r) y m q hn hx
          obtain ⟨b1, b2, b3, b4, p', b5⟩ := ihL d a m q (acc ++ [y]) x n' r' a3 h
          exact ⟨by omega, by omega, b3, by omega, p ++ p', by rw [a5, b5]; simp⟩
theorem rd_len (f d n : Nat) (l : List Tk) (x : Nd) (n' : Nat) (r' : List Tk) (hn : n ≤ 4096) (h : rdN f d n l = .ok (x, n', r')) : r'.length + 1 ≤ l.length ∧ n + 1 ≤ n' ∧ n' ≤ 4096 ∧ n' + r'.length ≤ n + l.length := by
  obtain ⟨h1, h2, h3, h4, _⟩ := (rd_lens f).2 d n l x n' r' hn h
  exact ⟨h1, h2, h3, h4⟩
theorem rd_sub (f d n : Nat) (l : List Tk) (x : Nd) (n' : Nat) (r' : List Tk) (hn : n ≤ 4096) (h : rdN f d n l = .ok (x, n', r')) : ∀ u ∈ r', u ∈ l := by
  obtain ⟨_, _, _, _, p, e⟩ := (rd_lens f).2 d n l x n' r' hn h
  intro u hu
  rw [e]
  exact List.mem_append_right _ hu
def ErrL (f : Nat) : Prop := ∀ d b n l acc a e, l.length + 1 ≤ f → n ≤ 4096 → rdL f d b n l acc = .error (a, e) → (e = 2 ∨ e = 3 ∨ e = 4) ∧ (a = b ∨ ∃ t ∈ l, t.a = a)
def ErrN (f : Nat) : Prop := ∀ d n l a e, l.length ≤ f → l ≠ [] → n ≤ 4096 → rdN f d n l = .error (a, e) → (e = 2 ∨ e = 3 ∨ e = 4) ∧ ∃ t ∈ l, t.a = a
theorem rd_errs (f : Nat) : ErrL f ∧ ErrN f := by
  refine rd_ind (PL := ErrL) (PN := ErrN) ?_ ?_ ?_ f
  · intro d b n l acc a e hf
    omega
  · intro f ihL d n l a e hf hl hn h
    obtain ⟨t, r, el, h9⟩ := rdN_bad hl h
    subst el
    rw [List.length_cons] at hf
    rcases h9 with ⟨h1, h2⟩ | ⟨_, _, h⟩ | h
    · exact ⟨by omega, t, List.mem_cons_self, h1.symm⟩
    · obtain ⟨h1, h2⟩ := ihL d t.a (n + 1) r [] a e (by omega) (by omega) h
      refine ⟨h1, ?_⟩
      rcases h2 with h2 | ⟨u, hu, h2⟩
      · exact ⟨t, List.mem_cons_self, h2.symm⟩
      · exact ⟨u, List.mem_cons_of_mem _ hu, h2⟩
    · obtain ⟨h1, h2⟩ := notR_bad h
      refine ⟨h1, ?_⟩
      rcases h2 with h2 | ⟨u, hu, h2⟩
      · exact ⟨t, List.mem_cons_self, h2.symm⟩
      · exact ⟨u, List.mem_cons_of_mem _ hu, h2⟩
  · intro f ihL ihN d b n l acc a e hf hn h
    cases l with
    | nil =>
      obtain ⟨e1, e2⟩ := bad_inj h
      exact ⟨by omega, .inl e1.symm⟩
    | cons t r =>
      rw [List.length_cons] at hf
      by_cases hk : t.k = 5
      · rw [rdL_close _ _ _ _ _ _ _ hk] at h; exact no_bad h
      · cases hx : rdN f (d + 1) n (t :: r) with
        | error p =>
          obtain ⟨a', e'⟩ := p
          rw [rdL_bad _ _ _ _ _ _ _ _ _ hk hx] at h
          obtain ⟨rfl, rfl⟩ := bad_inj h
          obtain ⟨h1, h2⟩ := ihN (d + 1) n (t :: r) _ _ (by rw [List.length_cons]; omega) (by simp) hn hx
          exact ⟨h1, .inr h2⟩
        | ok p =>
          obtain ⟨y, m, q⟩ := p
          rw [rdL_ok _ _ _ _ _ _ _ _ _ _ hk hx] at h
          have h1 := rd_len f (d + 1) n (t :: r) y m q hn hx
          rw [List.length_cons] at h1
          have hs := rd_sub f (d + 1) n (t :: r) y m q hn hx
          obtain ⟨h2, h3⟩ := ihL d b m q (acc ++ [y]) a e (by omega) h1.2.2.1 h
          refine ⟨h2, h3.imp id ?_⟩
          rintro ⟨u, hu, e⟩
          exact ⟨u, hs u hu, e⟩
end Go.Proofs.YtnhbjhdkpbhioaaGreatDoor
namespace Go.Proofs.YtnhbjhdkpbhioaaGreatDoor
open Go.RowKit
abbrev Co := Int × Int × List UInt8
def flL : List Nd → List Co
  | [] => []
  | ⟨k, _, i, s, l⟩ :: r => (if k = 0 then (4, 0, []) :: (flL l ++ [(5, 0, [])]) else if k = 8 then (8, 0, []) :: flL l else [(k, i, s)]) ++ flL r
def flN (x : Nd) : List Co := if x.k = 0 then (4, 0, []) :: (flL x.l ++ [(5, 0, [])]) else if x.k = 8 then (8, 0, []) :: flL x.l else [(x.k, x.i, x.s)]
theorem flN_mk (k : Int) (a : Nat) (i : Int) (s : List UInt8) (l : List Nd) : flN (.mk k a i s l) = if k = 0 then (4, 0, []) :: (flL l ++ [(5, 0, [])]) else if k = 8 then (8, 0, []) :: flL l else [(k, i, s)] := rfl
theorem flL_nil : flL [] = [] := by rw [flL]
theorem flL_cons (x : Nd) (r : List Nd) : flL (x :: r) = flN x ++ flL r := by cases x; rw [flL]; rfl
theorem flL_app : ∀ (x y : List Nd), flL (x ++ y) = flL x ++ flL y
  | [], y => by rw [List.nil_append, flL_nil, List.nil_append]
  | a :: r, y => by rw [List.cons_append, flL_cons, flL_cons, flL_app r y, List.append_assoc]
theorem flL_one (x : Nd) : flL [x] = flN x := by rw [flL_cons, flL_nil, List.append_nil]
def WfU (k i : Int) (s : List UInt8) : Prop := WfT k i s ∧ markT k = false
def WfL : List Nd → Prop
  | [] => True
  | ⟨k, _, i, s, l⟩ :: r => ((k = 0 ∧ i = 0 ∧ s = [] ∧ WfL l) ∨ (k = 8 ∧ i = 0 ∧ s = [] ∧ ∃ k' a' i' s', l = [.mk k' a' i' s' []] ∧ WfU k' i' s') ∨ (WfU k i s ∧ l = [])) ∧ WfL r
def WfN (x : Nd) : Prop := (x.k = 0 ∧ x.i = 0 ∧ x.s = [] ∧ WfL x.l) ∨ (x.k = 8 ∧ x.i = 0 ∧ x.s = [] ∧ ∃ k' a' i' s', x.l = [.mk k' a' i' s' []] ∧ WfU k' i' s') ∨ (WfU x.k x.i x.s ∧ x.l = [])
theorem WfN_mk (k : Int) (a : Nat) (i : Int) (s : List UInt8) (l : List Nd) : WfN (.mk k a i s l) ↔ (k = 0 ∧ i = 0 ∧ s = [] ∧ WfL l) ∨ (k = 8 ∧ i = 0 ∧ s = [] ∧ ∃ k' a' i' s', l = [.mk k' a' i' s' []] ∧ WfU k' i' s') ∨ (WfU k i s ∧ l = []) := Iff.rfl
theorem WfL_nil : WfL [] := by rw [WfL]; trivial
theorem WfL_cons (x : Nd) (r : List Nd) : WfL (x :: r) ↔ WfN x ∧ WfL r := by cases x; rw [WfL]; exact Iff.rfl
theorem WfL_app : ∀ {x y : List Nd}, WfL x → WfL y → WfL (x ++ y)
  | [], y, _, h => h
  | a :: r, y, h1, h2 => by
    rw [WfL_cons] at h1
    rw [List.cons_append, WfL_cons]
    exact ⟨h1.1, WfL_app h1.2 h2⟩
theorem WfL_mem : ∀ {l : List Nd}, WfL l → ∀ x ∈ l, WfN x
  | [], _, x, h => by simp at h
  | a :: r, h1, x, h => by
    rw [WfL_cons] at h1
    rcases List.mem_cons.1 h with rfl | h
    · exact h1.1
    · exact WfL_mem h1.2 x h
theorem wfT_kind {k i : Int} {s : List UInt8} (h : WfT k i s) : 1 ≤ k ∧ k ≤ 8 := by
  rcases h with ⟨h, _⟩ | ⟨h, _⟩ | ⟨h, _⟩ | ⟨h, _⟩ | ⟨h, _⟩ <;> omega
theorem wfU_kind {k i : Int} {s : List UInt8} (h : WfU k i s) : k = 1 ∨ k = 2 ∨ k = 3 ∨ k = 6 ∨ k = 7 := by
  have h1 := wfT_kind h.1
  have h2 := h.2
  unfold markT at h2
  rw [decide_eq_false_iff_not] at h2
  omega
theorem leaf_wf {k i : Int} {s : List UInt8} (a : Nat) (h : WfU k i s) : WfN (.mk k a i s []) := by rw [WfN_mk]; exact .inr (.inr ⟨h, rfl⟩)
theorem leaf_fl {k i : Int} {s : List UInt8} (a : Nat) (h : WfU k i s) : flN (.mk k a i s []) = [(k, i, s)] := by
  have := wfU_kind h
  rw [flN_mk, if_neg (by omega), if_neg (by omega)]
theorem mark_core {t : Tk} (h : WfT t.k t.i t.s) (hk : t.k = 4 ∨ t.k = 5 ∨ t.k = 8) : core t = (t.k, 0, []) := by
  rcases h with ⟨q, _⟩ | ⟨q, _⟩ | ⟨q, _⟩ | ⟨_, q1, q2⟩ | ⟨q, _⟩
  · omega
  · omega
  · omega
  · unfold core; rw [q1, q2]
  · omega
def FlL (f : Nat) : Prop := ∀ d a n l acc x n' r', n ≤ 4096 → (∀ t ∈ l, WfT t.k t.i t.s) → WfL acc → rdL f d a n l acc = .ok (x, n', r') → WfN x ∧ (4, 0, []) :: (flL acc ++ l.map core) = flN x ++ r'.map core
def FlN (f : Nat) : Prop := ∀ d n l x n' r', n ≤ 4096 → (∀ t ∈ l, WfT t.k t.i t.s) → rdN f d n l = .ok (x, n', r') → WfN x ∧ l.map core = flN x ++ r'.map core
theorem rd_fls (f : Nat) : FlL f ∧ FlN f := by
  refine rd_ind (PL := FlL) (PN := FlN) ?_ ?_ ?_ f
  · intro d a n l acc x n' r' _ _ _ h
    exact no_ok h
  · intro f ihL d n l x n' r' hn hw h
    obtain ⟨t, r, el, k5, hn2, h9⟩ := rdN_ok h
    subst el
    have ht := hw t List.mem_cons_self
    rcases h9 with ⟨k4, _, h9⟩ | ⟨k8, h9⟩ | ⟨k4, k8, rfl, _, rfl⟩
    · obtain ⟨h1, h2⟩ := ihL d t.a (n + 1) r [] x n' r' (by omega) (fun u hu => hw u (List.mem_cons_of_mem _ hu)) WfL_nil h9
      refine ⟨h1, ?_⟩
      rw [flL_nil, List.nil_append] at h2
      rw [← h2, List.map_cons, mark_core ht (.inl k4), k4]
    · obtain ⟨u, q, rfl, hm, _, rfl, _, rfl⟩ := notR_ok h9
      have hu : WfU u.k u.i u.s := ⟨hw u (by simp), hm⟩
      refine ⟨?_, ?_⟩
      · rw [WfN_mk]
        exact .inr (.inl ⟨rfl, rfl, rfl, u.k, u.a, u.i, u.s, rfl, hu⟩)
      · rw [flN_mk, if_neg (by decide), if_pos rfl, flL_one]
        unfold leafN
        rw [leaf_fl u.a hu, List.map_cons, List.map_cons, mark_core ht (.inr (.inr k8)), k8]; rfl
    · have hu : WfU t.k t.i t.s := ⟨ht, by unfold markT; rw [decide_eq_false_iff_not]; omega⟩
      unfold leafN
      refine ⟨leaf_wf t.a hu, ?_⟩
      rw [leaf_fl t.a hu]; rfl
  · intro f ihL ihN d a n l acc x n' r' hn hw ha h
    cases l with
    | nil => exact no_ok h
    | cons t r =>
      have ht := hw t List.mem_cons_self
      by_cases hk : t.k = 5
      · rw [rdL_close _ _ _ _ _ _ _ hk] at h
        obtain ⟨rfl, _, rfl⟩ := ok_inj h
        refine ⟨?_, ?_⟩
        · rw [WfN_mk]; exact .inl ⟨rfl, rfl, rfl, ha⟩
        · rw [flN_mk, if_pos rfl, List.map_cons, mark_core ht (.inr (.inl hk)), hk]; simp
      · cases hx : rdN f (d + 1) n (t :: r) with
        | error p => obtain ⟨a', e⟩ := p; rw [rdL_bad _ _ _ _ _ _ _ _ _ hk hx] at h; exact no_ok h
        | ok p =>
          obtain ⟨y, m, q⟩ := p
          rw [rdL_ok _ _ _ _ _ _ _ _ _ _ hk hx] at h
          obtain ⟨h1, h2⟩ := ihN (d + 1) n (t :: r) y m q hn hw hx
          have hs := rd_sub f (d + 1) n (t :: r) y m q hn hx
          have hl := rd_len f (d + 1) n (t :: r) y m q hn hx
          obtain ⟨h3, h4⟩ := ihL d a m q (acc ++ [y]) x n' r' hl.2.2.1 (fun u hu => hw u (hs u hu)) (WfL_app ha (by rw [WfL_cons]; exact ⟨h1, WfL_nil⟩)) h
          refine ⟨h3, ?_⟩
          rw [← h4, h2, flL_app, flL_one, List.append_assoc]
theorem rdT_fl : ∀ (f n : Nat) (l : List Tk) (acc : List Nd), (∀ t ∈ l, WfT t.k t.i t.s) → WfL acc → n ≤ 4096 → l.length + 1 ≤ f → (rdT f n l acc).e = 0 → WfL (rdT f n l acc).l ∧ flL (rdT f n l acc).l = flL acc ++ l.map core
  | 0, n, l, acc, _, _, _, hf, _ => by omega
  | f + 1, n, [], acc, _, ha, _, _, _ => by rw [rdT_nil]; exact ⟨ha, by simp⟩
  | f + 1, n, t :: r, acc, hw, ha, hn, hf, h => by
    rw [List.length_cons] at hf
    cases hx : rdN f 0 n (t :: r) with
    | error p =>
      obtain ⟨a', e⟩ := p
      rw [rdT_bad _ _ _ _ _ _ _ hx] at h
      have := ((rd_errs f).2 0 n (t :: r) a' e (by rw [List.length_cons]; omega) (by simp) hn hx).1
      have h0 : e = 0 := h
      omega
    | ok p =>
      obtain ⟨y, m, q⟩ := p
      rw [rdT_ok _ _ _ _ _ _ _ _ hx] at h ⊢
      obtain ⟨h1, h2⟩ := (rd_fls f).2 0 n (t :: r) y m q hn hw hx
      have hl := rd_len f 0 n (t :: r) y m q hn hx
      rw [List.length_cons] at hl
      have hs := rd_sub f 0 n (t :: r) y m q hn hx
      obtain ⟨h3, h4⟩ := rdT_fl f m q (acc ++ [y]) (fun u hu => hw u (hs u hu)) (WfL_app ha (by rw [WfL_cons]; exact ⟨h1, WfL_nil⟩)) hl.2.2.1 (by omega) h
      refine ⟨h3, ?_⟩
      rw [h4, h2, flL_app, flL_one, List.append_assoc]
def coN (c : Co) : Nat := 2 * c.2.2.length + 24
def sumC (l : List Co) : Nat := (l.map coN).sum
theorem sumC_app (x y : List Co) : sumC (x ++ y) = sumC x + sumC y := by unfold sumC; rw [List.map_append, List.sum_append]
theorem sumC_cons (x : Co) (y : List Co) : sumC (x :: y) = coN x + sumC y := by unfold sumC; rw [List.map_cons, List.sum_cons]
theorem sumC_nil : sumC [] = 0 := rfl
theorem txt_le : ∀ n : Nat, (∀ x : Nd, cntN x ≤ n → WfN x → (txtN x).length + 1 ≤ sumC (flN x)) ∧ (∀ l : List Nd, cntL l ≤ n → WfL l → (txtB l).length ≤ sumC (flL l) ∧ (txtR l).length ≤ sumC (flL l))
  | 0 => by
    refine ⟨fun x h => absurd h (by have := cntN_pos x; omega), fun l h _ => ?_⟩
    have hl : l = [] := List.eq_nil_of_length_eq_zero (by have := cntL_len l; omega)
    subst hl
    rw [txtB_nil, txtR_nil]
    simp
  | n + 1 => by
    obtain ⟨_, ihL⟩ := txt_le n
    have hN : ∀ x : Nd, cntN x ≤ n + 1 → WfN x → (txtN x).length + 1 ≤ sumC (flN x) := by
      intro x hx hw
      obtain ⟨k, p, i, s, l⟩ := x
      rw [cntN_mk] at hx
      rw [WfN_mk] at hw
      rw [txtN_mk, flN_mk]
      have leaf : ∀ {k i : Int} {s : List UInt8}, WfU k i s → (tokL k i s).length + 1 ≤ coN (k, i, s) := by
        intro k i s h
        have := tokL_len h.1
        unfold coN; show _ ≤ 2 * s.length + 24; omega
      rcases hw with ⟨rfl, _, _, hl⟩ | ⟨rfl, _, _, k', a', i', s', rfl, hu⟩ | ⟨hu, rfl⟩
      · rw [if_pos rfl, if_pos rfl, sumC_cons, sumC_app, sumC_cons, sumC_nil]
        have := (ihL l (by omega) hl).1
        simp only [List.length_cons, List.length_append, List.length_nil, coN]; omega
      · rw [if_neg (by decide), if_pos rfl, if_neg (by decide), if_pos rfl, txtB_cons, txtR_nil, List.append_nil, flL_one, leaf_fl a' hu, sumC_cons, sumC_cons, sumC_nil]
        have hk := wfU_kind hu
        rw [txtN_mk, if_neg (by omega), if_neg (by omega)]
        have := leaf hu
        have : coN (8, 0, []) = 24 := rfl
        rw [List.length_cons]; omega
      · have hk := wfU_kind hu
        rw [if_neg (by omega), if_neg (by omega), if_neg (by omega), if_neg (by omega), sumC_cons, sumC_nil]
        exact leaf hu
    refine ⟨hN, fun l => ?_⟩
    induction l with
    | nil =>
      intro _ _
      rw [txtB_nil, txtR_nil]
      simp
    | cons x r ih =>
      intro hc hw
      rw [cntL_cons] at hc
      rw [WfL_cons] at hw
      have hp := cntN_pos x
      obtain ⟨_, h1⟩ := ih (by omega) hw.2
      have hx := hN x (by omega) hw.1
      rw [txtB_cons, txtR_cons, flL_cons, sumC_app]
      simp only [List.length_cons, List.length_append]
      omega
theorem txtN_le {x : Nd} (h : WfN x) : (txtN x).length + 1 ≤ sumC (flN x) := (txt_le (cntN x)).1 x (Nat.le_refl _) h
theorem lines_le : ∀ (l : List Nd), WfL l → (linesN l).length ≤ sumC (flL l)
  | [], _ => Nat.zero_le _
  | x :: r, h => by
    rw [WfL_cons] at h
    have := txtN_le h.1
    have := lines_le r h.2
    show (txtN x ++ 10 :: linesN r).length ≤ _
    rw [flL_cons, sumC_app, List.length_append, List.length_cons]; omega
theorem sumC_mem : ∀ (l : List Nd) (x : Nd), x ∈ l → sumC (flN x) ≤ sumC (flL l)
  | [], x, h => by simp at h
  | a :: r, x, h => by
    rw [flL_cons, sumC_app]
    rcases List.mem_cons.1 h with rfl | h
    · omega
    · have := sumC_mem r x h; omega
theorem sumC_core : ∀ l : List Tk, sumC (l.map core) = 2 * sumS l + 24 * l.length
  | [] => rfl
  | t :: r => by
    rw [List.map_cons, sumC_cons, sumC_core r]
    show 2 * t.s.length + 24 + _ = 2 * sumS ([t] ++ r) + _
    rw [sumS_app, List.length_cons]
    show _ = 2 * (t.s.length + 0 + sumS r) + _
    omega
def readQ (l : List UInt8) : OutN := if (scanQ l 0 []).e = 0 then rdT ((scanQ l 0 []).l.length + 1) 0 (scanQ l 0 []).l [] else ⟨[], (scanQ l 0 []).a, (scanQ l 0 []).e⟩
theorem readQ_of {l : List UInt8} {R : Out} (h : scanQ l 0 [] = R) : readQ l = if R.e = 0 then rdT (R.l.length + 1) 0 R.l [] else ⟨[], R.a, R.e⟩ := by unfold readQ; rw [h]
theorem readQ_fl (l : List UInt8) (h : (readQ l).e = 0) : (scanQ l 0 []).e = 0 ∧ WfL (readQ l).l ∧ flL (readQ l).l = (scanQ l 0 []).l.map core := by
  unfold readQ at h ⊢
  split at h
  · rename_i h0
    rw [if_pos h0]
    have := rdT_fl _ 0 (scanQ l 0 []).l [] (scanQ_wf l) WfL_nil (by omega) (Nat.le_refl _) h
    exact ⟨h0, this.1, by rw [this.2, flL_nil, List.nil_append]⟩
  · rename_i h0
    exact absurd h h0
theorem readQ_len (l : List UInt8) (h : (readQ l).e = 0) : sumC (flL (readQ l).l) ≤ 26 * l.length := by
  obtain ⟨_, _, h2⟩ := readQ_fl l h
  rw [h2, sumC_core]
  have := scanQ_sum l
  have := scanQ_len l
  omega
end Go.Proofs.YtnhbjhdkpbhioaaGreatDoor
namespace Go.Proofs.YtnhbjhdkpbhioaaGreatDoor
open Go.RowKit
theorem scan_at : ∀ (l : List UInt8) (k a : Nat) (acc : List Tk), ∀ t ∈ (scanS l k a acc).l, t ∈ acc ∨ (a ≤ t.a ∧ t.a < a + l.length)
  | [], _, _, acc, t, h => .inl h
  | c :: r, k + 1, a, acc, t, h => by
    rcases scan_at r k (a + 1) acc t h with h | h
    · exact .inl h
    · exact .inr (by rw [List.length_cons]; omega)
  | c :: r, 0, a, acc, t, h => by
    have key : ∀ k acc', t ∈ (scanS r k (a + 1) acc').l → t ∈ acc' ∨ (a ≤ t.a ∧ t.a < a + (c :: r).length) := by
      intro k acc' h
      rcases scan_at r k (a + 1) acc' t h with h | h
      · exact .inl h
      · exact .inr (by rw [List.length_cons]; omega)
    rw [scanS_0] at h
    split at h
    · exact key _ _ h
    split at h
    · exact key _ _ h
    split at h
    · rcases key _ _ h with h | h
      · rw [List.mem_append, List.mem_singleton] at h
        rcases h with h | rfl
        · exact .inl h
        · exact .inr ⟨Nat.le_refl _, by simp⟩
      · exact .inr h
    · simp at h
theorem rdT_err : ∀ (f n : Nat) (l : List Tk) (acc : List Nd), l.length + 1 ≤ f → n ≤ 4096 → (rdT f n l acc).e = 0 ∨ (((rdT f n l acc).e = 2 ∨ (rdT f n l acc).e = 3 ∨ (rdT f n l acc).e = 4) ∧ (rdT f n l acc).l = [] ∧ ∃ t ∈ l, t.a = (rdT f n l acc).a)
  | 0, n, l, acc, hf, _ => by omega
  | f + 1, n, [], acc, _, _ => .inl rfl
  | f + 1, n, t :: r, acc, hf, hn => by
    rw [List.length_cons] at hf
    cases hx : rdN f 0 n (t :: r) with
    | error p =>
      obtain ⟨a', e⟩ := p
      obtain ⟨h1, h2⟩ := (rd_errs f).2 0 n (t :: r) a' e (by rw [List.length_cons]; omega) (by simp) hn hx
      rw [rdT_bad _ _ _ _ _ _ _ hx]
      exact .inr ⟨h1, rfl, h2⟩
    | ok p =>
      obtain ⟨y, m, q⟩ := p
      have hl := rd_len f 0 n (t :: r) y m q hn hx
      rw [List.length_cons] at hl
      have hs := rd_sub f 0 n (t :: r) y m q hn hx
      rw [rdT_ok _ _ _ _ _ _ _ _ hx]
      rcases rdT_err f m q (acc ++ [y]) (by omega) hl.2.2.1 with h | ⟨h1, h2, u, hu, h3⟩
      · exact .inl h
      · exact .inr ⟨h1, h2, u, hs u hu, h3⟩
end Go.Proofs.YtnhbjhdkpbhioaaGreatDoor
namespace Go.Proofs.YtnhbjhdkpbhioaaGreatDoor
open Go.RowKit
theorem len_sum : ∀ l : List Co, 24 * l.length ≤ sumC l
  | [] => Nat.le_refl _
  | c :: r => by
    have := len_sum r
    rw [sumC_cons, List.length_cons]
    unfold coN
    omega
theorem cnt_fl : ∀ n : Nat, (∀ x : Nd, cntN x ≤ n → WfN x → cntN x ≤ (flN x).length) ∧ (∀ l : List Nd, cntL l ≤ n → WfL l → cntL l ≤ (flL l).length)
  | 0 => by
    refine ⟨fun x h => absurd h (by have := cntN_pos x; omega), fun l h _ => ?_⟩
    omega
  | n + 1 => by
    obtain ⟨_, ihL⟩ := cnt_fl n
    have hN : ∀ x : Nd, cntN x ≤ n + 1 → WfN x → cntN x ≤ (flN x).length := by
      intro x hx hw
      obtain ⟨k, p, i, s, l⟩ := x
      rw [cntN_mk] at hx ⊢
      rw [WfN_mk] at hw
      rw [flN_mk]
      rcases hw with ⟨rfl, _, _, hl⟩ | ⟨rfl, _, _, k', a', i', s', rfl, hu⟩ | ⟨hu, rfl⟩
      · rw [if_pos rfl]
        have := ihL l (by omega) hl
        simp only [List.length_cons, List.length_append, List.length_nil]; omega
      · rw [if_neg (by decide), if_pos rfl, flL_one, leaf_fl a' hu, cntL_cons, cntL_nil, cntN_mk, cntL_nil]
        simp only [List.length_cons, List.length_nil]; omega
      · have hk := wfU_kind hu
        rw [if_neg (by omega), if_neg (by omega), cntL_nil]
        simp only [List.length_cons, List.length_nil]; omega
    refine ⟨hN, fun l => ?_⟩
    induction l with
    | nil => intro _ _; rw [cntL_nil]; omega
    | cons x r ih =>
      intro hc hw
      rw [cntL_cons] at hc ⊢
      rw [WfL_cons] at hw
      have hp := cntN_pos x
      have h1 := ih (by omega) hw.2
      have hx := hN x (by omega) hw.1
      rw [flL_cons, List.length_append]
      omega
theorem cntN_le {x : Nd} (h : WfN x) : 24 * cntN x ≤ sumC (flN x) := by
  have h1 := (cnt_fl (cntN x)).1 x (Nat.le_refl _) h
  have h2 := len_sum (flN x)
  omega
theorem cntL_le {l : List Nd} (h : WfL l) : 24 * cntL l ≤ sumC (flL l) := by
  have h1 := (cnt_fl (cntL l)).2 l (Nat.le_refl _) h
  have h2 := len_sum (flL l)
  omega
structure NdB (x : Nd) : Prop where
  wf : WfN x
  sum : sumC (flN x) ≤ 200000
  cnt : cntN x ≤ 100000
  txt : (txtN x).length ≤ 200000
  len : x.l.length ≤ 100000
theorem read_bnd (l : List UInt8) (R : OutN) (hR : readQ l = R) (h : R.e = 0) (hl : l.length ≤ 3000) : WfL R.l ∧ cntL R.l ≤ 10000 ∧ (linesN R.l).length ≤ 80000 ∧ R.l.length ≤ 10000 ∧ ∀ x ∈ R.l, NdB x := by
  subst hR
  obtain ⟨_, h1, _⟩ := readQ_fl l h
  have h2 := readQ_len l h
  have h3 := cntL_le h1
  have h4 := lines_le _ h1
  have h5 := cntL_len (readQ l).l
  refine ⟨h1, by omega, by omega, by omega, fun x hx => ?_⟩
  have hw := WfL_mem h1 x hx
  have g1 := sumC_mem _ x hx
  have g2 := cntN_le hw
  have g3 := txtN_le hw
  have g4 := cntL_len x.l
  have g5 : cntN x = 1 + cntL x.l := rfl
  exact ⟨hw, by omega, by omega, by omega, by omega⟩
end Go.Proofs.YtnhbjhdkpbhioaaGreatDoor
namespace Go.Proofs.YtnhbjhdkpbhioaaGreatDoor
open Go.RowKit
def onesL : Nat → List UInt8
  | 0 => []
  | m + 1 => 32 :: 49 :: onesL m
def hL (m : Nat) : List UInt8 := 40 :: 104 :: (onesL m ++ [41])
end Go.Proofs.YtnhbjhdkpbhioaaGreatDoor
namespace Go.Proofs.YtnhbjhdkpbhioaaGreatDoor
open Go.RowKit
structure Tch (R : Nat) (w w' : World) : Prop where
  os : w'.os = w.os
  tape : w'.tape = w.tape
  output : w'.output = w.output
  size : w.heap.size ≤ w'.heap.size
  block : ∀ k, k < w.heap.size → k ≠ R → w'.heap[k]? = w.heap[k]?
theorem Tch.refl (R : Nat) (w : World) : Tch R w w := ⟨rfl, rfl, rfl, Nat.le_refl _, fun _ _ _ => rfl⟩
theorem Tch.trans {R : Nat} {a b c : World} (h : Tch R a b) (k : Tch R b c) : Tch R a c :=
  ⟨k.os.trans h.os, k.tape.trans h.tape, k.output.trans h.output, Nat.le_trans h.size k.size, fun i hi hn => (k.block i (Nat.lt_of_lt_of_le hi h.size) hn).trans (h.block i hi hn)⟩
theorem Tch.of_below {R : Nat} {w w' : World} (h : Below w.heap.size w w') : Tch R w w' := ⟨h.os, h.tape, h.output, h.size, fun k hk _ => h.block k hk⟩
theorem Tch.below {R B : Nat} {w w' : World} (h : Tch R w w') (hB : B ≤ R) (hB2 : B ≤ w.heap.size) : Below B w w' := ⟨h.os, h.tape, h.output, h.size, fun k hk => h.block k (by omega) (by omega)⟩
theorem Tch.alloc (R : Nat) (w : World) (o : Obj) : Tch R w (w.alloc o) := .of_below ((Below.refl _ _).alloc (Nat.le_refl _) _)
theorem Tch.set (R : Nat) (w : World) (j : Nat) (v : Value) : Tch R w (w.setCell ⟨R, j, none⟩ v) :=
  ⟨rfl, rfl, rfl, by simp [World.setCell], fun k _ hn => Below.heap_setCell w _ _ k hn⟩
theorem Tch.cell {R : Nat} {w w' : World} {p : Addr} {v : Value} (h : Tch R w w') (hp : p.block ≠ R) (hc : w.cell? p = some v) : w'.cell? p = some v := by
  have hl := World.block_lt_of_cell? w p hc
  rw [World.cell?_of_block (h.block p.block hl hp)]; exact hc
theorem Tch.froz {R : Nat} {w w' : World} {p : Addr} {b : Bool} (h : Tch R w w') (hl : p.block < w.heap.size) (hp : p.block ≠ R) (hc : w.frozen? p = b) : w'.frozen? p = b := by
  rw [World.frozen?_of_block (h.block p.block hl hp)]; exact hc
theorem Tch.own {R B e size n : Nat} {w w' : World} {v : Value} {xs : List Value} (h : Tch R w w') (hB : R < B) (ho : w.ownsRow B e size v n xs) : w'.ownsRow B e size v n xs := by
  refine ⟨ho.1, ho.2.elim Or.inl (fun ⟨g, cap, cur, hv, hg, hh, r⟩ => Or.inr ⟨g, cap, cur, hv, hg, ?_, r⟩)⟩
  have hlt : g < w.heap.size := by
    rcases Nat.lt_or_ge g w.heap.size with h1 | h1
    · exact h1
    · rw [Array.getElem?_eq_none h1] at hh; exact absurd hh (by simp)
  rw [h.block g hlt (by omega)]; exact hh
def Two (w : World) (R T : Nat) (x y : Value) : Prop := w.heap[R]? = some (.cells #[x, y] T (0, 0))
theorem Two.lt {w : World} {R T : Nat} {x y : Value} (h : Two w R T x y) : R < w.heap.size := by
  rcases Nat.lt_or_ge R w.heap.size with h1 | h1
  · exact h1
  · unfold Two at h; rw [Array.getElem?_eq_none h1] at h; exact absurd h (by simp)
theorem Two.c0 {w : World} {R T : Nat} {x y : Value} (h : Two w R T x y) : w.cell? ⟨R, 0, none⟩ = some x := by unfold Two at h; unfold World.cell?; rw [h]; rfl
theorem Two.c1 {w : World} {R T : Nat} {x y : Value} (h : Two w R T x y) : w.cell? ⟨R, 1, none⟩ = some y := by unfold Two at h; unfold World.cell?; rw [h]; rfl
theorem Two.gone {w : World} {R T : Nat} {x y : Value} (h : Two w R T x y) (j : Nat) (hj : 2 ≤ j) : w.cell? ⟨R, j, none⟩ = none := by
  unfold Two at h; unfold World.cell?; rw [h]
  show (#[x, y] : Array Value)[j]? = none
  exact Array.getElem?_eq_none (by simpa using hj)
theorem Two.f (j : Nat) {w : World} {R T : Nat} {x y : Value} (h : Two w R T x y) : w.frozen? ⟨R, j, none⟩ = false := Lib.frozen_of_heap h j
theorem Two.ne {w : World} {R T : Nat} {x y v : Value} (h : Two w R T x y) {b j : Nat} (hj : 2 ≤ j) (hc : w.cell? ⟨b, j, none⟩ = some v) : b ≠ R := by
  rintro rfl
  rw [h.gone j hj] at hc; exact absurd hc (by simp)
theorem Two.set0 {w : World} {R T : Nat} {x y : Value} (h : Two w R T x y) (u : Value) : Two (w.setCell ⟨R, 0, none⟩ u) R T u y := by
  unfold Two at h ⊢
  simp [World.setCell, Array.getElem?_modify, h]
theorem Two.set1 {w : World} {R T : Nat} {x y : Value} (h : Two w R T x y) (u : Value) : Two (w.setCell ⟨R, 1, none⟩ u) R T x u := by
  unfold Two at h ⊢
  simp [World.setCell, Array.getElem?_modify, h]
theorem Two.next {w w' : World} {R T : Nat} {x y : Value} (h : Two w R T x y) (hb : Below w.heap.size w w') : Two w' R T x y := by
  have := h.lt
  unfold Two at h ⊢
  rw [hb.block R this]; exact h
theorem Two.alloc {w : World} {R T : Nat} {x y : Value} (h : Two w R T x y) (o : Obj) : Two (w.alloc o) R T x y := h.next ((Below.refl _ _).alloc (Nat.le_refl _) _)
def NdsAt (w : World) (S : Nat → Prop) : Nat → Nat → List Nd → Prop
  | _, _, [] => True
  | b, o, ⟨k, a, i, s, l⟩ :: r => S b ∧ (∃ (ao : Option Addr) (cap b' o' : Nat), w.cell? ⟨b, o, none⟩ = some (.int .i64 k) ∧ w.cell? ⟨b, o + 1, none⟩ = some (.int .i64 (a : Int)) ∧ w.cell? ⟨b, o + 2, none⟩ = some (.int .i64 i)
    ∧ w.cell? ⟨b, o + 3, none⟩ = some (.string (baL s)) ∧ w.cell? ⟨b, o + 4, none⟩ = some (.slice ao l.length cap) ∧ l.length ≤ cap ∧ (l ≠ [] → ao = some ⟨b', o', none⟩) ∧ NdsAt w S b' o' l) ∧ NdsAt w S b (o + 5) r
theorem NdsAt_nil (w : World) (S : Nat → Prop) (b o : Nat) : NdsAt w S b o [] := by rw [NdsAt]; trivial
theorem NdsAt_cons {w : World} {S : Nat → Prop} {b o : Nat} {k : Int} {a : Nat} {i : Int} {s : List UInt8} {l r : List Nd} : NdsAt w S b o (⟨k, a, i, s, l⟩ :: r) ↔ S b ∧ (∃ (ao : Option Addr) (cap b' o' : Nat), w.cell? ⟨b, o, none⟩ = some (.int .i64 k) ∧ w.cell? ⟨b, o + 1, none⟩ = some (.int .i64 (a : Int)) ∧ w.cell? ⟨b, o + 2, none⟩ = some (.int .i64 i)
    ∧ w.cell? ⟨b, o + 3, none⟩ = some (.string (baL s)) ∧ w.cell? ⟨b, o + 4, none⟩ = some (.slice ao l.length cap) ∧ l.length ≤ cap ∧ (l ≠ [] → ao = some ⟨b', o', none⟩) ∧ NdsAt w S b' o' l) ∧ NdsAt w S b (o + 5) r := by rw [NdsAt]
theorem NdsAt.keep_n {w w' : World} {S S' : Nat → Prop} (hw : ∀ k, S k → k < w.heap.size → w'.heap[k]? = w.heap[k]? ∧ S' k) : ∀ (n : Nat) (l : List Nd) (b o : Nat), cntL l ≤ n → NdsAt w S b o l → NdsAt w' S' b o l
  | _, [], b, o, _, _ => NdsAt_nil w' S' b o
  | 0, x :: r, b, o, hn, _ => by rw [cntL_cons] at hn; have := cntN_pos x; omega
  | n + 1, ⟨k, a, i, s, l⟩ :: r, b, o, hn, h => by
    rw [cntL_cons, cntN_mk] at hn
    rw [NdsAt_cons] at h ⊢
    obtain ⟨hS, ⟨ao, cap, b', o', c0, c1, c2, c3, c4, hc, ha, hk⟩, hr⟩ := h
    obtain ⟨hb, hS'⟩ := hw b hS (World.block_lt_of_cell? w ⟨b, o, none⟩ c0)
    have k4 : ∀ i u, w.cell? ⟨b, i, none⟩ = some u → w'.cell? ⟨b, i, none⟩ = some u := fun i u hu => by rw [World.cell?_of_block (a := ⟨b, i, none⟩) hb]; exact hu
    exact ⟨hS', ⟨ao, cap, b', o', k4 _ _ c0, k4 _ _ c1, k4 _ _ c2, k4 _ _ c3, k4 _ _ c4, hc, ha, keep_n hw n l b' o' (by omega) hk⟩, keep_n hw n r b (o + 5) (by omega) hr⟩
theorem NdsAt.keep {w w' : World} {S S' : Nat → Prop} (hw : ∀ k, S k → k < w.heap.size → w'.heap[k]? = w.heap[k]? ∧ S' k) {b o : Nat} {l : List Nd} (h : NdsAt w S b o l) : NdsAt w' S' b o l := NdsAt.keep_n hw _ l b o (Nat.le_refl _) h
def IsNds (w : World) (S : Nat → Prop) (ao : Option Addr) (l : List Nd) : Prop := ∃ b o, (l ≠ [] → ao = some ⟨b, o, none⟩) ∧ NdsAt w S b o l
theorem IsNds.nil (w : World) (S : Nat → Prop) (ao : Option Addr) : IsNds w S ao [] := ⟨0, 0, fun h => absurd rfl h, NdsAt_nil w S 0 0⟩
theorem IsNds.keep {w w' : World} {S S' : Nat → Prop} {ao : Option Addr} {l : List Nd} (h : IsNds w S ao l) (hw : ∀ k, S k → k < w.heap.size → w'.heap[k]? = w.heap[k]? ∧ S' k) : IsNds w' S' ao l := by
  obtain ⟨b, o, h1, h2⟩ := h
  exact ⟨b, o, h1, h2.keep hw⟩
theorem IsNds.next {w w' : World} {S : Nat → Prop} {ao : Option Addr} {l : List Nd} (h : IsNds w S ao l) (hb : Below w.heap.size w w') : IsNds w' S ao l := h.keep fun k hk hl => ⟨hb.block k hl, hk⟩
def anyB (_ : Nat) : Prop := True
def geB (B k : Nat) : Prop := B ≤ k
theorem IsNds.any {w : World} {S : Nat → Prop} {ao : Option Addr} {l : List Nd} (h : IsNds w S ao l) : IsNds w anyB ao l := h.keep fun _ _ _ => ⟨rfl, trivial⟩
theorem IsNds.tch {R B : Nat} {w w' : World} {ao : Option Addr} {l : List Nd} (h : IsNds w (geB B) ao l) (ht : Tch R w w') (hB : R < B) : IsNds w' (geB B) ao l :=
  h.keep fun k hk hl => ⟨ht.block k hl (by unfold geB at hk; omega), hk⟩
structure NdAt (w : World) (S : Nat → Prop) (b o : Nat) (x : Nd) (ao : Option Addr) (cap : Nat) : Prop where
  c0 : w.cell? ⟨b, o, none⟩ = some (.int .i64 x.k)
  c1 : w.cell? ⟨b, o + 1, none⟩ = some (.int .i64 (x.a : Int))
  c2 : w.cell? ⟨b, o + 2, none⟩ = some (.int .i64 x.i)
  c3 : w.cell? ⟨b, o + 3, none⟩ = some (.string (baL x.s))
  c4 : w.cell? ⟨b, o + 4, none⟩ = some (.slice ao x.l.length cap)
  hc : x.l.length ≤ cap
  kids : IsNds w S ao x.l
theorem NdAt.next {w w' : World} {S : Nat → Prop} {b o cap : Nat} {x : Nd} {ao : Option Addr} (h : NdAt w S b o x ao cap) (hb : Below w.heap.size w w') : NdAt w' S b o x ao cap :=
  ⟨keep_cell hb h.c0, keep_cell hb h.c1, keep_cell hb h.c2, keep_cell hb h.c3, keep_cell hb h.c4, h.hc, h.kids.next hb⟩
theorem NdsAt.at {w : World} {S : Nat → Prop} : ∀ {l : List Nd} {b o : Nat}, NdsAt w S b o l → ∀ {j : Nat} {x : Nd}, l[j]? = some x → ∃ ao cap, NdAt w S b (o + j * 5) x ao cap
  | [], b, o, _, j, x, hj => by simp at hj
  | ⟨k, a, i, s, l⟩ :: r, b, o, h, 0, x, hj => by
    rw [NdsAt_cons] at h
    obtain ⟨_, ⟨ao, cap, b', o', c0, c1, c2, c3, c4, hc, ha, hk⟩, _⟩ := h
    simp at hj
    subst hj
    rw [Nat.zero_mul, Nat.add_zero]
    exact ⟨ao, cap, c0, c1, c2, c3, c4, hc, b', o', ha, hk⟩
  | ⟨k, a, i, s, l⟩ :: r, b, o, h, j + 1, x, hj => by
    rw [NdsAt_cons] at h
    rw [List.getElem?_cons_succ] at hj
    obtain ⟨ao, cap, h⟩ := NdsAt.at h.2.2 hj
    exact ⟨ao, cap, by rw [show o + (j + 1) * 5 = o + 5 + j * 5 by omega]; exact h⟩
theorem IsNds.at {w : World} {S : Nat → Prop} {ao : Option Addr} {l : List Nd} (h : IsNds w S ao l) {j : Nat} {x : Nd} (hj : l[j]? = some x) : ∃ b o ao' cap', ao = some ⟨b, o, none⟩ ∧ NdAt w S b (o + j * 5) x ao' cap' := by
  obtain ⟨b, o, h1, h2⟩ := h
  obtain ⟨ao', cap', h3⟩ := h2.at hj
  exact ⟨b, o, ao', cap', h1 (by rintro rfl; simp at hj), h3⟩
structure Nc where
  k : Int
  a : Nat
  i : Int
  s : List UInt8
  ao : Option Addr
  n : Nat
  cap : Nat
def ncC (c : Nc) : List Value := [.int .i64 c.k, .int .i64 (c.a : Int), .int .i64 c.i, .string (baL c.s), .slice c.ao c.n c.cap]
def nodeV (c : Nc) : Value := .agg #[.int .i64 c.k, .int .i64 (c.a : Int), .int .i64 c.i, .string (baL c.s), .slice c.ao c.n c.cap]
def NcIs (w : World) (S : Nat → Prop) (c : Nc) (x : Nd) : Prop := c.k = x.k ∧ c.a = x.a ∧ c.i = x.i ∧ c.s = x.s ∧ c.n = x.l.length ∧ c.n ≤ c.cap ∧ IsNds w S c.ao x.l
theorem NcIs.keep {w w' : World} {S S' : Nat → Prop} {c : Nc} {x : Nd} (h : NcIs w S c x) (hw : ∀ k, S k → k < w.heap.size → w'.heap[k]? = w.heap[k]? ∧ S' k) : NcIs w' S' c x := ⟨h.1, h.2.1, h.2.2.1, h.2.2.2.1, h.2.2.2.2.1, h.2.2.2.2.2.1, h.2.2.2.2.2.2.keep hw⟩
theorem NcIs.next {w w' : World} {S : Nat → Prop} {c : Nc} {x : Nd} (h : NcIs w S c x) (hb : Below w.heap.size w w') : NcIs w' S c x := h.keep fun k hk hl => ⟨hb.block k hl, hk⟩
theorem NcIs.leaf (w : World) (S : Nat → Prop) (k : Int) (a : Nat) (i : Int) (s : List UInt8) : NcIs w S ⟨k, a, i, s, none, 0, 0⟩ ⟨k, a, i, s, []⟩ := ⟨rfl, rfl, rfl, rfl, rfl, Nat.le_refl _, IsNds.nil w S none⟩
def NcsIs (w : World) (S : Nat → Prop) : List Nc → List Nd → Prop
  | [], [] => True
  | c :: cs, x :: xs => NcIs w S c x ∧ NcsIs w S cs xs
  | _, _ => False
def ncsC (L : List Nc) : List Value := L.flatMap ncC
theorem ncs_snoc (L : List Nc) (t : Nc) : ncsC L ++ ncC t = ncsC (L ++ [t]) := by unfold ncsC; rw [List.flatMap_append]; simp
theorem NcsIs.len {w : World} {S : Nat → Prop} : ∀ {L : List Nc} {l : List Nd}, NcsIs w S L l → L.length = l.length
  | [], [], _ => rfl
  | [], _ :: _, h => by cases h
  | _ :: _, [], h => by cases h
  | c :: cs, x :: xs, h => by rw [List.length_cons, List.length_cons, NcsIs.len h.2]
theorem NcsIs.keep {w w' : World} {S S' : Nat → Prop} (hw : ∀ k, S k → k < w.heap.size → w'.heap[k]? = w.heap[k]? ∧ S' k) : ∀ {L : List Nc} {l : List Nd}, NcsIs w S L l → NcsIs w' S' L l
  | [], [], _ => trivial
  | [], _ :: _, h => by cases h
  | _ :: _, [], h => by cases h
  | c :: cs, x :: xs, h => ⟨h.1.keep hw, NcsIs.keep hw h.2⟩
theorem NcsIs.next {w w' : World} {S : Nat → Prop} {L : List Nc} {l : List Nd} (h : NcsIs w S L l) (hb : Below w.heap.size w w') : NcsIs w' S L l := h.keep fun k hk hl => ⟨hb.block k hl, hk⟩
theorem NcsIs.snoc {w : World} {S : Nat → Prop} {c : Nc} {x : Nd} (hc : NcIs w S c x) : ∀ {L : List Nc} {l : List Nd}, NcsIs w S L l → NcsIs w S (L ++ [c]) (l ++ [x])
  | [], [], _ => ⟨hc, trivial⟩
  | [], _ :: _, h => by cases h
  | _ :: _, [], h => by cases h
  | c :: cs, x :: xs, h => ⟨h.1, NcsIs.snoc hc h.2⟩
theorem ncs_at {w : World} {S : Nat → Prop} {b : Nat} (hS : S b) : ∀ (L : List Nc) (l : List Nd) (o : Nat), NcsIs w S L l → (∀ j v, (ncsC L)[j]? = some v → w.cell? ⟨b, o + j, none⟩ = some v) → NdsAt w S b o l
  | [], [], o, _, _ => NdsAt_nil w S b o
  | [], _ :: _, _, h, _ => by cases h
  | _ :: _, [], _, h, _ => by cases h
  | c :: cs, x :: xs, o, h, hv => by
    obtain ⟨k, a, i, s, l⟩ := x
    obtain ⟨⟨h1, h2, h3, h4, h5, h6, b', o', h7, h8⟩, hr⟩ := h
    obtain ⟨ck, ca, ci, cs', cao, cn, ccap⟩ := c
    simp only at h1 h2 h3 h4 h5 h6 h7 h8
    subst h1 h2 h3 h4 h5
    have hv' : ∀ j v, (ncC ⟨ck, ca, ci, cs', cao, l.length, ccap⟩ ++ ncsC cs)[j]? = some v → w.cell? ⟨b, o + j, none⟩ = some v := hv
    have hl : (ncC ⟨ck, ca, ci, cs', cao, l.length, ccap⟩).length = 5 := rfl
    rw [NdsAt_cons]
    refine ⟨hS, ⟨cao, ccap, b', o', hv' 0 _ rfl, hv' 1 _ rfl, hv' 2 _ rfl, hv' 3 _ rfl, hv' 4 _ rfl, h6, h7, h8⟩, ncs_at hS cs xs (o + 5) hr fun j v hj => ?_⟩
    rw [show o + 5 + j = o + (j + 5) by omega]
    refine hv' (j + 5) v ?_
    rw [List.getElem?_append_right (by omega), hl, show j + 5 - 5 = j by omega]; exact hj
theorem ncs_len (L : List Nc) : (ncsC L).length = L.length * 5 := by
  induction L with
  | nil => rfl
  | cons c r ih =>
    show (ncC c ++ ncsC r).length = _
    rw [List.length_append, ih, List.length_cons]
    show 5 + _ = _
    omega
theorem own_nds {w : World} {S : Nat → Prop} {B T : Nat} {v : Value} {L : List Nc} {l : List Nd} (h : w.ownsRow B T 5 v L.length (ncsC L)) (hL : NcsIs w S L l) (hS : ∀ k, B ≤ k → v.ownBlock = some k → S k) : ∃ ao cap, v = .slice ao l.length cap ∧ l.length ≤ cap ∧ IsNds w S ao l := by
  have hlen := hL.len
  rcases h.2 with ⟨rfl, h0⟩ | ⟨g, cap, cur, rfl, hg, _, hn, _⟩
  · have e : l = [] := List.eq_nil_of_length_eq_zero (by omega)
    subst e
    exact ⟨none, 0, rfl, Nat.le_refl _, IsNds.nil _ _ _⟩
  · refine ⟨_, cap, by rw [hlen], by omega, g, 0, fun _ => rfl, ncs_at (hS g hg rfl) L l 0 hL fun j v hj => ?_⟩
    have hjl : j < (ncsC L).length := (List.getElem?_eq_some_iff.1 hj).1
    rw [ncs_len] at hjl
    rw [Nat.zero_add, h.cellAt j hjl]; exact hj
def offB (B : Nat) (v : Value) (k : Nat) : Prop := B ≤ k ∧ v.ownBlock ≠ some k
theorem ncs_grow {w w' : World} {B H g cap n : Nat} {v : Value} {L : List Nc} {l : List Nd} (h : NcsIs w (offB B v) L l) (hg : w.grownBy w' v.ownBlock) (hv : v.ownBlock = some g ∨ g = H) (hH : w.heap.size = H) : NcsIs w' (offB B (.slice (some ⟨g, 0, none⟩) n cap)) L l := by
  refine h.keep fun k hk hl => ⟨hg.block k hl (fun e => hk.2 e.symm), hk.1, fun e => ?_⟩
  have e1 : g = k := Option.some.inj e
  rcases hv with hv | hv
  · exact hk.2 (by rw [hv, e1])
  · omega
end Go.Proofs.YtnhbjhdkpbhioaaGreatDoor
namespace Go.Proofs.YtnhbjhdkpbhioaaGreatDoor
open Go.RowKit
def RdAt (w : World) (R : Nat) (l : List Tk) (c : Nat) : Prop := ∃ ao cap, Two w R 165 (.slice ao l.length cap) (.int .i64 (c : Int)) ∧ l.length ≤ cap ∧ IsToks w ao l ∧ ∀ a, ao = some a → a.block < R
theorem RdAt.lt {w : World} {R c : Nat} {l : List Tk} (h : RdAt w R l c) : R < w.heap.size := by
  obtain ⟨ao, cap, h1, _⟩ := h
  exact h1.lt
theorem IsToks.keep {R : Nat} {w w' : World} {ao : Option Addr} {L : List Tk} (h : IsToks w ao L) (ha : ∀ a, ao = some a → a.block < R) (hw : ∀ k, k < R → w'.heap[k]? = w.heap[k]?) : IsToks w' ao L := by
  intro j v hj
  obtain ⟨b, o, h0, h1, h2, h3, h4⟩ := h j v hj
  have hb := hw b (ha _ h0)
  have k4 : ∀ i u, w.cell? ⟨b, i, none⟩ = some u → w'.cell? ⟨b, i, none⟩ = some u := fun i u hu => by rw [World.cell?_of_block (a := ⟨b, i, none⟩) hb]; exact hu
  exact ⟨b, o, h0, k4 _ _ h1, k4 _ _ h2, k4 _ _ h3, k4 _ _ h4⟩
theorem RdAt.keep {w w' : World} {R c : Nat} {l : List Tk} (h : RdAt w R l c) (hw : ∀ k, k ≤ R → w'.heap[k]? = w.heap[k]?) : RdAt w' R l c := by
  obtain ⟨ao, cap, h1, h2, h3, h4⟩ := h
  refine ⟨ao, cap, ?_, h2, h3.keep h4 fun k hk => hw k (by omega), h4⟩
  unfold Two at h1 ⊢
  rw [hw R (Nat.le_refl _)]; exact h1
theorem RdAt.next {w w' : World} {R c : Nat} {l : List Tk} (h : RdAt w R l c) (hb : Below w.heap.size w w') : RdAt w' R l c := h.keep fun k hk => hb.block k (by have := h.lt; omega)
theorem RdAt.count {w : World} {R c : Nat} {l : List Tk} (h : RdAt w R l c) (c' : Nat) : RdAt (w.setCell ⟨R, 1, none⟩ (.int .i64 (c' : Int))) R l c' := by
  obtain ⟨ao, cap, h1, h2, h3, h4⟩ := h
  exact ⟨ao, cap, h1.set1 _, h2, h3.keep h4 fun k hk => Below.heap_setCell _ _ _ _ (by show k ≠ R; omega), h4⟩
theorem RdAt.count1 {w : World} {R c : Nat} {l : List Tk} (h : RdAt w R l c) : RdAt (w.setCell ⟨R, 1, none⟩ (.int .i64 ((c : Int) + 1))) R l (c + 1) := by
  have := h.count (c + 1)
  rw [Int.natCast_add] at this
  exact this
theorem RdAt.c1 {w : World} {R c : Nat} {l : List Tk} (h : RdAt w R l c) : w.cell? ⟨R, 1, none⟩ = some (.int .i64 (c : Int)) ∧ w.frozen? ⟨R, 1, none⟩ = false := by
  obtain ⟨ao, cap, h1, _⟩ := h
  exact ⟨h1.c1, h1.f 1⟩
theorem RdAt.set {w : World} {R c b j : Nat} {v : Value} {l : List Tk} (h : RdAt w R l c) (hb : R < b) : RdAt (w.setCell ⟨b, j, none⟩ v) R l c := h.keep fun k hk => Below.heap_setCell _ _ _ _ (by show k ≠ b; omega)
def fromT (ao : Option Addr) (cap : Nat) : Option Addr := if cap = 1 then ao else ao.map (fun a => a.add 4)
theorem tok_from (ao : Option Addr) (n cap : Nat) (w : World) (hk : 1 ≤ n) :
    (Instr.slice 161 (.slice ao n cap) (some (.int .i64 1)) none none).run Tryz.prog w = .ok (.slice (fromT ao cap) (n - 1) (cap - 1)) w := by
  have hz : Tryz.t208.size = 4 := by kernel_rfl
  have h := run_slice_l (P := Tryz.prog) w 161 ao n cap (by kernel_rfl) .i64 1 (by omega) (by omega)
  rw [h]
  have he : Tryz.prog.elem 161 = 208 := by kernel_rfl
  rw [he]
  simp [sizeOf, hz, sliced, fromT, Result.andThen]
theorem fromT_block {b o cap : Nat} {a : Addr} (h : fromT (some ⟨b, o, none⟩) cap = some a) : a.block = b := by
  unfold fromT at h
  split at h
  · rw [← Option.some.inj h]
  · have e : ((⟨b, o, none⟩ : Addr).add 4) = a := Option.some.inj h
    rw [← e]
    exact congrArg Addr.block (Go.WideShapes.add_plain ..)
theorem from_toks {w : World} {ao : Option Addr} {cap : Nat} {t : Tk} {r : List Tk} (h : IsToks w ao (t :: r)) (hc : r.length + 1 ≤ cap) : IsToks w (fromT ao cap) r := by
  intro j u hj
  obtain ⟨b, o, h0, h1, h2, h3, h4⟩ := h (j + 1) u (by rw [List.getElem?_cons_succ]; exact hj)
  have hl : j < r.length := (List.getElem?_eq_some_iff.1 hj).1
  refine ⟨b, o + 4, ?_, ?_, ?_, ?_, ?_⟩
  · unfold fromT; rw [if_neg (by omega), h0]; exact congrArg some (Go.WideShapes.add_plain ..)
  · rw [show o + 4 + j * 4 = o + (j + 1) * 4 by omega]; exact h1
  · rw [show o + 4 + j * 4 = o + (j + 1) * 4 by omega]; exact h2
  · rw [show o + 4 + j * 4 = o + (j + 1) * 4 by omega]; exact h3
  · rw [show o + 4 + j * 4 = o + (j + 1) * 4 by omega]; exact h4
set_option maxHeartbeats 2000000 in
set_option maxRecDepth 4000 in
theorem take_any (R n : Nat) (t : Tk) (r : List Tk) (w : World) (h : RdAt w R (t :: r) n) :
    Calls Tryz.prog 106 #[.pointer (some ⟨R, 0, none⟩)] w fun e w' => e = .returned (.agg #[.int .i64 (t.k), .int .i64 ((t.a : Int)), .int .i64 (t.i), .string (baL t.s)]) ∧ RdAt w' R r n ∧ Tch R w w' := by
  have HR := h.lt
  obtain ⟨ao, cap, h1, h2, h3, h4⟩ := h
  obtain ⟨b, o, rfl, c0, c1, c2, c3⟩ := h3 0 t rfl
  have hbR : b < R := h4 _ rfl
  have HT : Hid (IsToks w (fromT (some ⟨b, o, none⟩) cap) r) := from_toks h3 h2
  rw [Nat.zero_mul, Nat.add_zero] at c0 c1 c2 c3
  have H1 : Hid (Two w R 165 (.slice (some ⟨b, o, none⟩) (r.length + 1) cap) (.int .i64 (n : Int))) := h1
  have d0 := H1.out.c0
  have hne : b ≠ R := h1.ne (by omega) c3
  have f0 := H1.out.f 0
  obtain ⟨tk, ta, ti, ts⟩ := t
  simp only at c0 c1 c2 c3 ⊢
  obtain ⟨Y, HY⟩ : ∃ Y, Hid (baL ts = Y) := ⟨_, rfl⟩
  obtain ⟨N, HN⟩ : ∃ N, Hid (r.length = N) := ⟨_, rfl⟩
  rw [HN.out] at d0
  rw [HY.out] at c3 ⊢
  rw [List.length_cons, HN.out] at h2
  have hs : ∀ w, (Instr.slice 161 (.slice (some ⟨b, o, none⟩) (N + 1) cap) (some (.int .i64 1)) none none).run Tryz.prog w = .ok (.slice (fromT (some ⟨b, o, none⟩) cap) N (cap - 1)) w := fun w => by
    rw [tok_from _ _ _ _ (by omega)]; rfl
  have hbw : b < w.heap.size := by omega
  clear h1 h3
  go_enter Tryz.func106, Tryz.ntmps106
  go_wp2
  have HA : RdAt (w.setCell ⟨R, 0, none⟩ (.slice (fromT (some ⟨b, o, none⟩) cap) N (cap - 1))) R r n :=
    ⟨_, cap - 1, by rw [HN.out]; exact H1.out.set0 _, by rw [HN.out]; omega, HT.out.keep (R := R) (fun a ha => by rw [fromT_block ha]; exact hbR) fun k hk => Below.heap_setCell _ _ _ _ (by show k ≠ R; omega), fun a ha => by rw [fromT_block ha]; exact hbR⟩
  refine bodyPost_ret (v := .agg #[.int .i64 tk, .int .i64 (ta : Int), .int .i64 ti, .string Y]) (by simp [results, Tryz.results106, go_sem]) rfl ⟨rfl, ?_, ?_⟩
  · exact (HA.next (alloc_below _ _)).next (alloc_below _ _)
  · exact ((Tch.set R w 0 _).trans (Tch.alloc R _ _)).trans (Tch.alloc R _ _)
theorem sfault_any (a e : Int) (w : World) :
    Calls Tryz.prog 107 #[.int .i64 a, .int .i64 e] w fun r w' => r = .returned (.iface 133 (.pointer (some ⟨w.heap.size, 0, none⟩))) ∧ FaultAt w' w.heap.size a e ∧ Below w.heap.size w w' := by
  go_enter Tryz.func107, Tryz.ntmps107
  go_wp2
  go_ret
  refine ⟨rfl, ?_, alloc_below _ _⟩
  show (w.heap.push _)[w.heap.size]? = _
  rw [Array.getElem?_push_size]; rfl
end Go.Proofs.YtnhbjhdkpbhioaaGreatDoor
