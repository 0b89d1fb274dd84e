/- Facts, plainly: their keys, their order, who is where. No program in sight. -/
import Derived.Test.YtgjnnahflaaagaaDoorValHashM
namespace Go.Proofs.YtgjnnahflaaagaaDoor
open Go.RowKit

/-- A fact as it lies: its number, its template, its values, where these lie. -/
structure Ft where
  id : Nat
  t : ByteArray
  l : List Val
  a : Option Addr
  c : Nat
/-- What a fact is, wherever it lies. -/
def Ft.fc (f : Ft) : Nat × ByteArray × List Val := (f.id, f.t, f.l)
def Ft.tl (f : Ft) : ByteArray × List Val := (f.t, f.l)

def keyV (t : ByteArray) (l : List Val) : List Val := ⟨3, 0, t⟩ :: l
def keyB (t : ByteArray) (l : List Val) : ByteArray := hashS (keyV t l)
def Ft.key (f : Ft) : ByteArray := keyB f.t f.l
theorem hashS_inj {L M : List Val} (h : hashS L = hashS M) : L = M := by
  unfold hashS at h
  injection h with h
  exact hashL_inj L M (by simpa using congrArg Array.toList h)
theorem keyB_inj {t u : ByteArray} {l m : List Val} (h : keyB t l = keyB u m) : t = u ∧ l = m := by
  have := hashS_inj h
  unfold keyV at this
  injection this with h1 h2
  injection h1 with _ _ h1
  exact ⟨h1, h2⟩
theorem key_of_fc {f g : Ft} (h : f.fc = g.fc) : f.key = g.key := by
  unfold Ft.fc at h
  injection h with _ h
  injection h with h1 h2
  unfold Ft.key; rw [h1, h2]

/-- Values as there may be, so many as there may be. -/
def FtOk (f : Ft) : Prop := f.t.size ≤ 1000 ∧ f.l.length ≤ 50 ∧ ∀ v ∈ f.l, v.ok
theorem keyV_ok {t : ByteArray} {l : List Val} (ht : t.size ≤ 1000) (hl : ∀ v ∈ l, v.ok) : ∀ v ∈ keyV t l, v.ok := by
  intro v hv
  unfold keyV at hv
  rcases List.mem_cons.1 hv with rfl | hv
  · exact ⟨show inB 3 = true by decide, show inB 0 = true by decide, by show t.size ≤ 100000; omega⟩
  · exact hl v hv

def idOf : List Ft → ByteArray → Nat
  | [], _ => 0
  | f :: r, s => if f.key = s then f.id else idOf r s

structure Good (F : List Ft) (last : Nat) : Prop where
  up : F.Pairwise fun f g => f.id < g.id
  one : F.Pairwise fun f g => f.key ≠ g.key
  pos : ∀ f ∈ F, 1 ≤ f.id ∧ f.id ≤ last
  ok : ∀ f ∈ F, FtOk f
theorem Good.nil (n : Nat) : Good [] n := ⟨List.Pairwise.nil, List.Pairwise.nil, fun f h => by simp at h, fun f h => by simp at h⟩

theorem idOf_mem : ∀ (F : List Ft) (s : ByteArray), idOf F s ≠ 0 → ∃ f ∈ F, f.key = s ∧ f.id = idOf F s
  | [], s, h => by simp [idOf] at h
  | f :: r, s, h => by
    unfold idOf at h ⊢
    split
    · next e => exact ⟨f, by simp, e, rfl⟩
    · next e =>
      rw [if_neg e] at h
      obtain ⟨g, hg, h1, h2⟩ := idOf_mem r s h
      exact ⟨g, by simp [hg], h1, h2⟩
theorem idOf_none : ∀ (F : List Ft) (s : ByteArray), (∀ f ∈ F, f.key ≠ s) → idOf F s = 0
  | [], s, _ => rfl
  | f :: r, s, h => by
    unfold idOf
    rw [if_neg (h f (by simp))]
    exact idOf_none r s (fun g hg => h g (by simp [hg]))
theorem idOf_of : ∀ (F : List Ft) (f : Ft), F.Pairwise (fun f g => f.key ≠ g.key) → f ∈ F → idOf F f.key = f.id
  | [], f, _, h => by simp at h
  | g :: r, f, hp, h => by
    rw [List.pairwise_cons] at hp
    unfold idOf
    rcases List.mem_cons.1 h with rfl | h
    · rw [if_pos rfl]
    · rw [if_neg (hp.1 f h)]
      exact idOf_of r f hp.2 h
theorem idOf_zero {F : List Ft} {s : ByteArray} (hp : ∀ f ∈ F, 1 ≤ f.id) (h : idOf F s = 0) : ∀ f ∈ F, f.key ≠ s := by
  induction F with
  | nil => intro f hf; simp at hf
  | cons g r ih =>
    unfold idOf at h
    by_cases e : g.key = s
    · rw [if_pos e] at h
      have := hp g (by simp)
      omega
    · rw [if_neg e] at h
      intro f hf
      rcases List.mem_cons.1 hf with rfl | hf
      · exact e
      · exact ih (fun f hf => hp f (by simp [hf])) h f hf
theorem idOf_snoc (F : List Ft) (f : Ft) (s : ByteArray) (h : ∀ g ∈ F, g.key ≠ f.key) : idOf (F ++ [f]) s = if f.key = s then f.id else idOf F s := by
  induction F with
  | nil => rfl
  | cons g r ih =>
    have hg := h g (by simp)
    have ih := ih (fun g hg => h g (by simp [hg]))
    show (if g.key = s then g.id else idOf (r ++ [f]) s) = _
    rw [ih]
    show _ = if f.key = s then f.id else (if g.key = s then g.id else idOf r s)
    by_cases e : g.key = s
    · rw [if_pos e, if_neg (fun e2 => hg (e.trans e2.symm)), if_pos e]
    · rw [if_neg e, if_neg e]
theorem idOf_erase : ∀ (F : List Ft) (p : Nat) (f : Ft) (s : ByteArray), F.Pairwise (fun f g => f.key ≠ g.key) → F[p]? = some f → idOf (F.eraseIdx p) s = if f.key = s then 0 else idOf F s
  | [], p, f, s, _, h => by simp at h
  | g :: r, 0, f, s, hp, h => by
    rw [List.pairwise_cons] at hp
    simp at h
    subst h
    show idOf r s = if g.key = s then 0 else (if g.key = s then g.id else idOf r s)
    by_cases e : g.key = s
    · rw [if_pos e]
      subst e
      exact idOf_none r _ (fun f hf => (hp.1 f hf).symm)
    · rw [if_neg e, if_neg e]
  | g :: r, p + 1, f, s, hp, h => by
    rw [List.pairwise_cons] at hp
    rw [List.getElem?_cons_succ] at h
    have ih := idOf_erase r p f s hp.2 h
    show (if g.key = s then g.id else idOf (r.eraseIdx p) s) = if f.key = s then 0 else (if g.key = s then g.id else idOf r s)
    rw [ih]
    have hne := hp.1 f (List.mem_of_getElem? h)
    by_cases e : g.key = s
    · rw [if_pos e, if_neg (fun e2 => hne (e.trans e2.symm)), if_pos e]
    · rw [if_neg e, if_neg e]

theorem Good.snoc {F : List Ft} {last : Nat} (h : Good F last) (f : Ft) (hi : f.id = last + 1) (hk : idOf F f.key = 0) (ho : FtOk f) : Good (F ++ [f]) (last + 1) := by
  refine ⟨?_, ?_, ?_, ?_⟩
  · rw [List.pairwise_append]
    refine ⟨h.up, by simp, fun a ha b hb => ?_⟩
    simp at hb; subst hb
    have := (h.pos a ha).2
    omega
  · rw [List.pairwise_append]
    refine ⟨h.one, by simp, fun a ha b hb => ?_⟩
    simp at hb; subst hb
    exact idOf_zero (fun f hf => (h.pos f hf).1) hk a ha
  · intro g hg
    rcases List.mem_append.1 hg with hg | hg
    · have := h.pos g hg; omega
    · simp at hg; subst hg; omega
  · intro g hg
    rcases List.mem_append.1 hg with hg | hg
    · exact h.ok g hg
    · simp at hg; subst hg; exact ho
theorem Good.erase {F : List Ft} {last : Nat} (h : Good F last) (p : Nat) : Good (F.eraseIdx p) last :=
  ⟨h.up.sublist (List.eraseIdx_sublist F p), h.one.sublist (List.eraseIdx_sublist F p), fun f hf => h.pos f ((List.eraseIdx_sublist F p).subset hf), fun f hf => h.ok f ((List.eraseIdx_sublist F p).subset hf)⟩
theorem Good.lt {F : List Ft} {last : Nat} (h : Good F last) {i j : Nat} {f g : Ft} (hf : F[i]? = some f) (hg : F[j]? = some g) (hij : i < j) : f.id < g.id := by
  obtain ⟨h1, e1⟩ := List.getElem?_eq_some_iff.1 hf
  obtain ⟨h2, e2⟩ := List.getElem?_eq_some_iff.1 hg
  have := List.pairwise_iff_getElem.1 h.up i j h1 h2 hij
  rw [e1, e2] at this
  exact this
theorem Good.eq {F : List Ft} {last : Nat} (h : Good F last) {i j : Nat} {f g : Ft} (hf : F[i]? = some f) (hg : F[j]? = some g) (e : f.id = g.id) : i = j := by
  rcases Nat.lt_trichotomy i j with c | c | c
  · have := h.lt hf hg c; omega
  · exact c
  · have := h.lt hg hf c; omega
/-- The same facts elsewhere are as good. -/
theorem pw_map {α β γ : Type} (m : α → γ) (n : β → γ) (R : γ → γ → Prop) (F : List α) (G : List β) (e : F.map m = G.map n) (h : F.Pairwise fun a b => R (m a) (m b)) : G.Pairwise fun a b => R (n a) (n b) := by
  rw [← List.pairwise_map] at h ⊢
  rw [← e]; exact h
theorem Good.like {F G : List Ft} {last : Nat} (h : Good F last) (e : F.map Ft.fc = G.map Ft.fc) : Good G last := by
  have hm : ∀ g ∈ G, ∃ f ∈ F, f.fc = g.fc := by
    intro g hg
    have : g.fc ∈ F.map Ft.fc := by rw [e]; exact List.mem_map_of_mem hg
    obtain ⟨f, hf, he⟩ := List.mem_map.1 this
    exact ⟨f, hf, he⟩
  refine ⟨?_, ?_, ?_, ?_⟩
  · exact pw_map Ft.fc Ft.fc (fun a b => a.1 < b.1) F G e h.up
  · exact pw_map Ft.fc Ft.fc (fun a b => keyB a.2.1 a.2.2 ≠ keyB b.2.1 b.2.2) F G e h.one
  · intro g hg
    obtain ⟨f, hf, he⟩ := hm g hg
    have := h.pos f hf
    have h1 : f.id = g.id := congrArg Prod.fst he
    omega
  · intro g hg
    obtain ⟨f, hf, he⟩ := hm g hg
    have h1 : f.t = g.t := congrArg (fun x => x.2.1) he
    have h2 : f.l = g.l := congrArg (fun x => x.2.2) he
    have := h.ok f hf
    unfold FtOk at this ⊢
    rw [← h1, ← h2]; exact this
theorem idOf_like : ∀ (F G : List Ft) (s : ByteArray), F.map Ft.fc = G.map Ft.fc → idOf F s = idOf G s
  | [], [], _, _ => rfl
  | [], _ :: _, _, h => by simp at h
  | _ :: _, [], _, h => by simp at h
  | f :: F, g :: G, s, h => by
    rw [List.map_cons, List.map_cons] at h
    injection h with h1 h2
    unfold idOf
    rw [key_of_fc h1, show f.id = g.id from congrArg Prod.fst h1, idOf_like F G s h2]
theorem like_get {F G : List Ft} (e : F.map Ft.fc = G.map Ft.fc) {i : Nat} {f : Ft} (h : F[i]? = some f) : ∃ g, G[i]? = some g ∧ g.fc = f.fc := by
  have : (G.map Ft.fc)[i]? = some f.fc := by rw [← e, List.getElem?_map, h]; rfl
  rw [List.getElem?_map] at this
  obtain ⟨g, h1, h2⟩ := Option.map_eq_some_iff.1 this
  exact ⟨g, h1, h2⟩
theorem like_len {F G : List Ft} (e : F.map Ft.fc = G.map Ft.fc) : F.length = G.length := by
  have := congrArg List.length e
  simpa using this
theorem map_erase {α β : Type} (f : α → β) : ∀ (l : List α) (p : Nat), (l.eraseIdx p).map f = (l.map f).eraseIdx p
  | [], _ => rfl
  | _ :: _, 0 => rfl
  | a :: r, p + 1 => by
    show f a :: (r.eraseIdx p).map f = f a :: (r.map f).eraseIdx p
    rw [map_erase f r p]
theorem like_erase {F G : List Ft} (e : F.map Ft.fc = G.map Ft.fc) (p : Nat) : (F.eraseIdx p).map Ft.fc = (G.eraseIdx p).map Ft.fc := by
  rw [map_erase, map_erase, e]
theorem like_snoc {F G : List Ft} (e : F.map Ft.fc = G.map Ft.fc) {f g : Ft} (h : f.fc = g.fc) : (F ++ [f]).map Ft.fc = (G ++ [g]).map Ft.fc := by
  simp [e, h]
end Go.Proofs.YtgjnnahflaaagaaDoor
