/- What TmplDefaults asks, in plain words. -/
import Derived.Test.YtlniifheapoppaaDoorG29
import Derived.Test.YtlniifheapoppaaDoorG28
namespace Go.Proofs.YtlniifheapoppaaDoor
open Go.RowKit

/-- The i-th slot's name. -/
def anam (i : Nat) : ByteArray := ⟨#[UInt8.ofNat (97 + i)]⟩
theorem anam_inj {i j : Nat} (hi : i < 26) (hj : j < 26) (h : anam i = anam j) : i = j := by
  unfold anam at h
  have h1 : UInt8.ofNat (97 + i) = UInt8.ofNat (97 + j) := by
    have := congrArg (fun b : ByteArray => b.data.toList) h
    simpa using this
  have h2 := congrArg UInt8.toNat h1
  simp only [UInt8.toNat_ofNat'] at h2
  omega
def slotsD (l : List Val) (k : Nat) : List Sl := match l with
  | [] => []
  | v :: r => ⟨anam k, v.k, v.i, v.s⟩ :: slotsD r (k + 1)
theorem slotsD_len : ∀ (l : List Val) (k : Nat), (slotsD l k).length = l.length
  | [], _ => rfl
  | v :: r, k => by unfold slotsD; rw [List.length_cons, List.length_cons, slotsD_len]
theorem slotsD_get : ∀ (l : List Val) (k j : Nat) (v : Val), l[j]? = some v → (slotsD l k)[j]? = some ⟨anam (k + j), v.k, v.i, v.s⟩
  | [], k, j, v, h => by simp at h
  | u :: r, k, 0, v, h => by simp at h; subst h; rfl
  | u :: r, k, j + 1, v, h => by
    unfold slotsD
    rw [List.getElem?_cons_succ, slotsD_get r (k + 1) j v (by simpa using h), show k + 1 + j = k + (j + 1) by omega]
theorem slotsD_snoc : ∀ (l : List Val) (k : Nat) (v : Val), slotsD (l ++ [v]) k = slotsD l k ++ [⟨anam (k + l.length), v.k, v.i, v.s⟩]
  | [], k, v => rfl
  | u :: r, k, v => by
    show _ :: slotsD (r ++ [v]) (k + 1) = _
    rw [slotsD_snoc r (k + 1) v]
    unfold slotsD
    rw [List.length_cons, show k + 1 + r.length = k + (r.length + 1) by omega]
    cases r <;> rfl
theorem place_D (l : List Val) (j : Nat) (hj : j < l.length) (hl : l.length ≤ 16) : placeS (slotsD l 0) (anam j) = some j := by
  obtain ⟨v, hv⟩ : ∃ v, l[j]? = some v := ⟨_, List.getElem?_eq_getElem hj⟩
  have h1 := slotsD_get l 0 j v hv
  rw [Nat.zero_add] at h1
  refine place_at _ _ j _ h1 rfl (fun m s' hm hs => ?_)
  have hml : m < l.length := by omega
  obtain ⟨u, hu⟩ : ∃ u, l[m]? = some u := ⟨_, List.getElem?_eq_getElem hml⟩
  have h2 := slotsD_get l 0 m u hu
  rw [h2] at hs
  cases hs
  intro h
  have := anam_inj (by omega) (by omega) h
  omega
theorem defsS_D (l : List Val) : ∀ k, defsS (slotsD l k) = l := by
  induction l with
  | nil => intro k; rfl
  | cons v r ih => intro k; unfold slotsD defsS; rw [List.map_cons]; exact congrArg (_ :: ·) (ih (k + 1))
/-- Which slot is named at the i-th turn; the value that it is given. -/
def kD (len turn i : Nat) : Nat := (i + turn) % len
def iV (k : Nat) : Val := ⟨1, (k : Int), ⟨#[]⟩⟩
def setD (len turn : Nat) (cur : List Val) : Nat → List Val
  | 0 => cur
  | n + 1 => (setD len turn cur n).set (kD len turn n) (iV (kD len turn n))
theorem kD_inj {len turn i j : Nat} (hi : i < len) (hj : j < len) (h : kD len turn i = kD len turn j) : i = j := by
  unfold kD at h
  have h1 : (i + turn) % len = (j + turn) % len := h
  rcases Nat.lt_or_ge i j with hij | hij
  · exfalso
    have : (j + turn - (i + turn)) % len = 0 := Nat.sub_mod_eq_zero_of_mod_eq h1.symm
    rw [show j + turn - (i + turn) = j - i by omega, Nat.mod_eq_of_lt (by omega)] at this
    omega
  · rcases Nat.lt_or_ge j i with hji | hji
    · exfalso
      have : (i + turn - (j + turn)) % len = 0 := Nat.sub_mod_eq_zero_of_mod_eq h1
      rw [show i + turn - (j + turn) = i - j by omega, Nat.mod_eq_of_lt (by omega)] at this
      omega
    · omega
def namesD (len turn n : Nat) : List ByteArray := (List.range n).map fun i => anam (kD len turn i)
def valsD (len turn n : Nat) : List Val := (List.range n).map fun i => iV (kD len turn i)
theorem kD_lt {len turn i : Nat} (h : 0 < len) : kD len turn i < len := Nat.mod_lt _ h
theorem setD_len (len turn : Nat) (cur : List Val) : ∀ n, (setD len turn cur n).length = cur.length
  | 0 => rfl
  | n + 1 => by unfold setD; rw [List.length_set, setD_len]
theorem namesD_succ (len turn n : Nat) : namesD len turn (n + 1) = namesD len turn n ++ [anam (kD len turn n)] := by
  unfold namesD; rw [List.range_succ, List.map_append]; rfl
theorem names_not {len turn m : Nat} (hm : m < len) (hl : len ≤ 16) : hasB (namesD len turn m) (anam (kD len turn m)) = false := by
  cases h : hasB (namesD len turn m) (anam (kD len turn m)) with
  | false => rfl
  | true =>
    exfalso
    have h' := hasB_iff.1 h
    unfold namesD at h'
    obtain ⟨i, hi, he⟩ := List.mem_map.1 h'
    rw [List.mem_range] at hi
    have g1 := kD_lt (turn := turn) (i := i) (show 0 < len by omega)
    have g2 := kD_lt (turn := turn) (i := m) (show 0 < len by omega)
    have := kD_inj (by omega) hm (anam_inj (by omega) (by omega) he)
    omega
theorem fill_steps (l : List Val) (turn : Nat) (hl : l.length ≤ 16) : ∀ (d m : Nat), m + d ≤ l.length →
    fillL (slotsD l 0) (namesD l.length turn m) (setD l.length turn l m) ((List.range' m d).map fun i => (anam (kD l.length turn i), iV (kD l.length turn i))) = .ok (setD l.length turn l (m + d))
  | 0, m, _ => by rw [List.range'_zero, List.map_nil]; rfl
  | d + 1, m, h => by
    rw [List.range'_succ, List.map_cons]
    unfold fillL
    rw [place_D l _ (kD_lt (by omega)) hl]
    simp only [names_not (show m < l.length by omega) hl, Bool.false_eq_true, if_false]
    have := fill_steps l turn hl d (m + 1) (by omega)
    rw [namesD_succ] at this
    rw [show m + (d + 1) = m + 1 + d by omega]
    exact this
theorem fill_D (l : List Val) (turn n : Nat) (hl : l.length ≤ 16) (hn : n ≤ l.length) : fillR (slotsD l 0) (namesD l.length turn n) (valsD l.length turn n) = .ok (setD l.length turn l n) := by
  unfold fillR
  rw [if_pos (by unfold namesD valsD; simp), defsS_D]
  have := fill_steps l turn hl n 0 (by omega)
  rw [Nat.zero_add] at this
  rw [← this]
  unfold namesD valsD
  rw [List.zip_map', List.range_eq_range']
  rfl
/-- What stands at a slot's place behind it. -/
def namedD (len turn n j : Nat) : Bool := (List.range n).any fun i => decide (kD len turn i = j)
theorem namedD_succ (len turn n j : Nat) : namedD len turn (n + 1) j = (namedD len turn n j || decide (kD len turn n = j)) := by
  unfold namedD; rw [List.range_succ, List.any_append]; simp
theorem setD_get (l : List Val) (turn : Nat) : ∀ (n j : Nat), j < l.length → (setD l.length turn l n)[j]? = if namedD l.length turn n j = true then some (iV j) else l[j]?
  | 0, j, _ => rfl
  | n + 1, j, hj => by
    unfold setD
    rw [namedD_succ]
    by_cases h : kD l.length turn n = j
    · rw [h, List.getElem?_set_self (by rw [setD_len]; exact hj)]
      simp
    · rw [List.getElem?_set_ne h, setD_get l turn n j hj]
      simp [h]
end Go.Proofs.YtlniifheapoppaaDoor
