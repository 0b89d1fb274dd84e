/- What TmplFills reads: values that are right, texts that are short, rows that are the same. -/
import Derived.Test.YtlniifheapoppaaGreatDoorTmByM
import Derived.Test.YtlniifheapoppaaGreatDoorG28
import Derived.Test.YtlniifheapoppaaGreatDoorG29
import Derived.Test.YtlniifheapoppaaGreatDoorG25
import Derived.Test.YtlniifheapoppaaGreatDoorG3
import Derived.Deep.RegionHeld3
namespace Go.Proofs.YtlniifheapoppaaGreatDoor
open Go.RowKit

structure OkV (v : Val) : Prop where
  k : v.k = 1 ∨ v.k = 2 ∨ v.k = 3
  i : inB v.i = true
  s : v.s.size ≤ 1000
theorem OkV.right {k i : Int} {s : ByteArray} (h : rightB k i s = true) (hi : inB i = true) : OkV ⟨k, i, s⟩ := by
  refine ⟨right_kind h, hi, ?_⟩
  rcases right_kind h with rfl | rfl | rfl
  · rw [right_int, decide_eq_true_eq] at h; show s.size ≤ 1000; omega
  · rw [right_sym, Bool.and_eq_true] at h
    have h2 := h.2
    unfold symB at h2
    rw [Bool.and_eq_true, Bool.and_eq_true, decide_eq_true_eq] at h2
    show s.size ≤ 1000
    omega
  · rw [right_str, decide_eq_true_eq] at h; exact h.2
theorem OkV.text {v : Val} (h : OkV v) : (textS v.k v.i v.s).data.toList.length ≤ 2100 := by
  obtain ⟨h1, h2, h3⟩ := h
  have e := Lib.size_eq v.s
  unfold textS
  rcases h1 with h1 | h1 | h1
  · rw [h1, if_pos rfl]; have := itoa_len v.i h2; show (Lib.itoa v.i).length ≤ _; omega
  · rw [h1, if_neg (by decide), if_pos rfl]; omega
  · rw [h1, if_neg (by decide), if_neg (by decide), if_pos rfl]
    have g1 := quoteS_size v.s
    have g2 := (escL_len v.s.data.toList).2
    have g3 := Lib.size_eq (quoteS v.s)
    omega
theorem wfV {x : Nd} (h : WfN x) (hk : (valN x).2.2.2 = true) : OkV ⟨(valN x).1, (valN x).2.1, baL (valN x).2.2.1⟩ := by
  have hu : x.k = 1 ∨ x.k = 2 ∨ x.k = 3 := by
    unfold valN at hk
    split at hk
    · assumption
    · cases hk
  have hv : valN x = (x.k, x.i, x.s, true) := by unfold valN; rw [if_pos hu]
  have hl := wfN_len h
  rw [hv]
  refine ⟨hu, ?_, by rw [baL_size]; exact hl⟩
  show inB x.i = true
  rcases h with ⟨h, _⟩ | ⟨h, _⟩ | ⟨h, _⟩
  · omega
  · omega
  · rcases h.1 with ⟨_, h, _⟩ | ⟨_, h, _⟩ | ⟨_, h, _⟩ | ⟨_, h, _⟩ | ⟨_, h, _⟩
    · exact h
    all_goals rw [h]; rfl
theorem defV_wf {x : Nd} {v : Int × Int × ByteArray} (hw : WfN x) (h : defV x = some v) : OkV ⟨v.1, v.2.1, v.2.2⟩ := by
  unfold defV at h
  split at h
  · split at h
    · rename_i a y hl
      split at h
      · rename_i hv
        cases h
        have hy : WfN y := by
          rcases hw with ⟨_, _, _, h⟩ | ⟨_, _, _, k', a', i', s', h, hu⟩ | ⟨_, h⟩
          · exact WfL_mem h y (by rw [hl]; simp)
          · rw [hl] at h; cases h
          · rw [hl] at h; cases h
        exact wfV hy hv
      · cases h
    · cases h
  · cases h
theorem slotN_wf {x : Nd} {s : Sl} (hw : WfN x) (h : slotN x = some s) : OkV ⟨s.k, s.i, s.s⟩ := by
  unfold slotN at h
  split at h
  · split at h
    · split at h
      · cases h; exact ⟨.inr (.inl rfl), show inB 0 = true by decide, show (baL wNil).size ≤ 1000 by decide⟩
      · cases h
    · rename_i a m d hl
      split at h
      · split at h
        · rename_i v hv
          cases h
          have hd : WfN d := by
            rcases hw with ⟨_, _, _, h⟩ | ⟨_, _, _, k', a', i', s', h, hu⟩ | ⟨_, h⟩
            · exact WfL_mem h d (by rw [hl]; simp)
            · rw [hl] at h; cases h
            · rw [hl] at h; cases h
          exact defV_wf hd hv
        · cases h
      · cases h
    · cases h
  · cases h
theorem runT_wf : ∀ (r : List Nd) (acc l : List Sl), (∀ y ∈ r, WfN y) → runT acc r = .ok l → (∀ s ∈ acc, OkV ⟨s.k, s.i, s.s⟩) → ∀ s ∈ l, OkV ⟨s.k, s.i, s.s⟩
  | [], acc, l, _, h, h1 => by cases h; exact h1
  | x :: r, acc, l, hw, h, h1 => by
    unfold runT at h
    split at h
    · cases h
    · rename_i s hs
      refine runT_wf r _ l (fun y hy => hw y (List.mem_cons_of_mem _ hy)) h (fun y hy => ?_)
      rcases List.mem_append.1 hy with hy | hy
      · exact h1 y hy
      · simp at hy; subst hy; exact slotN_wf (hw x (by simp)) (slotR_ok hs).1
theorem parT_wf {x : Nd} {t : Tp} (hw : WfN x) (h : parT x = .ok t) : ∀ s ∈ t.l, OkV ⟨s.k, s.i, s.s⟩ := by
  unfold parT at h
  split at h
  · split at h
    · rename_i z m r hl
      split at h
      · split at h
        · rename_i l hq
          cases h
          have hr : ∀ y ∈ r, WfN y := by
            rcases hw with ⟨_, _, _, h⟩ | ⟨_, _, _, k', a', i', s', h, hu⟩ | ⟨_, h⟩
            · exact fun y hy => WfL_mem h y (by rw [hl]; simp [hy])
            · rw [hl] at h; cases h
            · rw [hl] at h; cases h
          exact runT_wf r [] _ hr hq (fun s hs => by cases hs)
        · cases h
      · cases h
    · cases h
  · cases h
theorem fillL_in (T : List Sl) : ∀ (r : List (ByteArray × Val)) (done : List ByteArray) (cur out : List Val), fillL T done cur r = .ok out → ∀ v ∈ out, v ∈ cur ∨ ∃ p ∈ r, v = p.2
  | [], _, cur, out, h, v, hv => by cases h; exact .inl hv
  | (n, u) :: r, done, cur, out, h, v, hv => by
    unfold fillL at h
    split at h
    · cases h
    · split at h
      · cases h
      · rcases fillL_in T r _ _ _ h v hv with g | ⟨p, h1, h2⟩
        · rcases List.mem_or_eq_of_mem_set g with g | g
          · exact .inl g
          · exact .inr ⟨(n, u), by simp, g⟩
        · exact .inr ⟨p, List.mem_cons_of_mem _ h1, h2⟩
theorem fillR_ok {T : List Sl} {ns : List ByteArray} {vs out : List Val} (h : fillR T ns vs = .ok out) (h1 : ∀ s ∈ T, OkV ⟨s.k, s.i, s.s⟩) (h2 : ∀ v ∈ vs, OkV v) : ∀ v ∈ out, OkV v := by
  intro v hv
  unfold fillR at h
  split at h
  · rcases fillL_in T _ _ _ _ h v hv with g | ⟨p, g1, g2⟩
    · unfold defsS at g
      obtain ⟨s, g1, rfl⟩ := List.mem_map.1 g
      exact h1 s g1
    · rw [g2]; exact h2 _ (List.of_mem_zip g1).2
  · cases h
theorem textP_bd : ∀ l : List (Sl × Val), (∀ p ∈ l, p.1.n.data.toList.length ≤ 40 ∧ OkV p.2) → (textP l).length ≤ 2200 * l.length
  | [], _ => Nat.zero_le _
  | p :: r, h => by
    have h1 := textP_bd r (fun q hq => h q (List.mem_cons_of_mem _ hq))
    obtain ⟨h2, h3⟩ := h p (by simp)
    have h4 := h3.text
    unfold textP at h1 ⊢
    rw [List.map_cons, List.flatten_cons, List.length_append, List.length_cons]
    have h5 : (partS p.1 p.2).length ≤ 2200 := by
      unfold partS
      simp only [List.length_cons, List.length_append, List.length_nil]
      omega
    omega
theorem textT_bd {t : Tp} {vs : List Val} (h : OkT t) (hv : ∀ v ∈ vs, OkV v) : (textT t vs).length ≤ 300000 := by
  have h1 := textP_bd (t.l.zip vs) (fun p hp => ⟨good_size (h.all _ (List.of_mem_zip hp).1).n, hv _ (List.of_mem_zip hp).2⟩)
  have h2 := good_size h.n
  have h3 := h.len
  have h4 : (t.l.zip vs).length ≤ t.l.length := by rw [List.length_zip]; omega
  unfold textT
  simp only [List.length_cons, List.length_append, List.length_nil]
  omega

set_option maxHeartbeats 4000000 in
set_option maxRecDepth 8000 in
theorem rows_self (ao bo : Option Addr) (N ca cb : Nat) (l : List Val) (w : World) (hl : l.length = N) (hN : N ≤ 1000) (h : IsVals w ao l) (h2 : IsVals w bo l) :
    Calls Tryz.prog 23 #[.slice ao N ca, .slice bo N cb] w fun e w' => e = .returned (.bool true) ∧ Below w.heap.size w w' := by
  have HN : Hid (l.length = N) := hl
  have HI : Hid (IsVals w ao l) := h
  have HJ : Hid (IsVals w bo l) := h2
  have hn : ((N : Int) != (N : Int)) = false := by simp
  have HB : Hid (Below w.heap.size w w) := Below.refl _ _
  clear h h2 hl
  go_enter Tryz.func23, Tryz.ntmps23
  go_wp2
  go_loopw [5] (fun q wr => ∃ k : Nat, k ≤ N ∧ q = .int .i64 k ∧ Hid (Below w.heap.size w wr)) (fun q _ => N - (intOf q).toNat)
  case atStart => exact ⟨0, Nat.zero_le _, rfl, HB⟩
  case round =>
    obtain ⟨k, hk, rfl, HB⟩ := hrel
    by_cases hlt : k < N
    · have hki : (k : Int) < (N : Int) := by omega
      have hk0 : (0 : Int) ≤ (k : Int) := by omega
      obtain ⟨v, hv⟩ : ∃ v, l[k]? = some v := ⟨_, List.getElem?_eq_getElem (by rw [HN.out]; exact hlt)⟩
      obtain ⟨b, o, rfl, c0, c1, c2⟩ := (HI.out.next HB.out) k v hv
      obtain ⟨b2, o2, rfl, d0, d1, d2⟩ := (HJ.out.next HB.out) k v hv
      obtain ⟨vk, vi, vt⟩ := v
      simp only at c0 c1 c2 d0 d1 d2
      have HSm : Hid (∀ w : World, Calls Tryz.prog 46 #[.agg #[.int .i64 (vk), .int .i64 (vi), .string (vt)], .agg #[.int .i64 (vk), .int .i64 (vi), .string (vt)]] w fun e w' => e = .returned (.bool true) ∧ Below w.heap.size w w') := by
        intro w; rw [← sameB_refl vk vi vt]; exact rsame_any vk vi vk vi vt vt w
      clear hv
      go_wp2
      go_region_held3 (fun w' => w'.cell? ⟨b, o + k * 3, none⟩ = some (.int .i64 vk) ∧ w'.cell? ⟨b, o + k * 3 + 1, none⟩ = some (.int .i64 vi) ∧ w'.cell? ⟨b, o + k * 3 + 2, none⟩ = some (.string vt) ∧ w'.cell? ⟨b2, o2 + k * 3, none⟩ = some (.int .i64 vk) ∧ w'.cell? ⟨b2, o2 + k * 3 + 1, none⟩ = some (.int .i64 vi) ∧ w'.cell? ⟨b2, o2 + k * 3 + 2, none⟩ = some (.string vt))
        (((try dsimp only); go_split_ands; refine ⟨?_, ?_, ?_, ?_, ?_, ?_⟩ <;> first | assumption | exact keep_cell (by assumption) (by assumption)))
        (first
          | (go_at_call 46; refine (HSm.out _).mono ?_; rintro e w4 ⟨rfl, hb⟩; have hb4 := hb))
      all_goals
        go_split_ands
        have HB2 : Hid (Below w.heap.size w w4) := next_trans HB.out (below_undrawn hb4)
        go_wp2
        go_roundw
        case rel => exact ⟨k + 1, by omega, by go_num, HB2⟩
        case measure => simp [intOf]; omega
    · have hki : ¬ (k : Int) < (N : Int) := by omega
      go_wp2
      go_ret
      exact ⟨rfl, HB.out⟩
end Go.Proofs.YtlniifheapoppaaGreatDoor
