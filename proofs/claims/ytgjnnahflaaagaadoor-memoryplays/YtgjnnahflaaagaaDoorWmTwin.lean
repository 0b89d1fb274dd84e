/- The contracts of maps.Clone at the memory's map and of Twin. -/
import Derived.Test.YtgjnnahflaaagaaDoorWmOf
import Derived.Shelf.SlMaps.Clone
namespace Go.Proofs.YtgjnnahflaaagaaDoor
open Go.RowKit Go.Maps

theorem eq_map_some' (bm : Nat) (w : World) : (binOp .eql 59 (.map (some bm)) (.map none)).run Tryd.prog w = .ok (.bool false) w := by kernel_rfl
set_option maxHeartbeats 2000000 in
theorem mclone_some (b : Nat) (es : Array MapEntry) (clock : Nat) (w : World) (hb : w.heap[b]? = some (.map es clock)) :
    Calls Tryd.prog 30 #[.map (some b)] w fun e w' => e = .returned (.map (some w.heap.size)) ∧ w' = w.alloc (.map es clock) := by
  have hq := eq_map_some'
  go_enter Tryd.func30, Tryd.ntmps30
  go_wp2
  rw [run_callFunc_extern Tryd.func38 (by kernel_rfl) (by kernel_rfl) (by kernel_rfl) (e := Extern.MapsClone.clone) (by kernel_rfl), run_maps_clone_sl w 59 hb]
  simp only [Result.andThen]
  rw [Oper.upon_value]
  go_wp2
  rw [run_typeAssert_map_sl _ 59 20 _ _ _ Tryd.underlying59]
  simp only [Result.andThen]
  rw [Oper.upon_value]
  go_wp2
  go_ret
  exact ⟨rfl, rfl⟩
set_option maxHeartbeats 2000000 in
theorem mclone_none (w : World) :
    Calls Tryd.prog 30 #[.map none] w fun e w' => e = .returned (.map none) ∧ w' = w := by
  have hq := eq_map_none
  go_enter Tryd.func30, Tryd.ntmps30
  go_wp2
  go_ret
  exact ⟨rfl, rfl⟩
/-- A map of numbers that is ours from block B on. -/
def MapT (w : World) (B : Nat) (m : Value) (last : Nat) (F : List Ft) : Prop := (F = [] ∧ m = .map none) ∨ ∃ bm, m = .map (some bm) ∧ B ≤ bm ∧ MapIs w bm last F
theorem MapT.next {w w' : World} {B last : Nat} {m : Value} {F : List Ft} (h : MapT w B m last F) (hb : Below w.heap.size w w') : MapT w' B m last F := by
  rcases h with h | ⟨bm, h1, h2, h3⟩
  · exact .inl h
  · exact .inr ⟨bm, h1, h2, h3.same (hb.block bm h3.lt)⟩
theorem MapT.like {w : World} {B last : Nat} {m : Value} {F G : List Ft} (h : MapT w B m last F) (e : F.map Ft.fc = G.map Ft.fc) : MapT w B m last G := by
  rcases h with ⟨h1, h2⟩ | ⟨bm, h1, h2, h3⟩
  · subst h1
    exact .inl ⟨List.eq_nil_of_length_eq_zero (like_len e).symm, h2⟩
  · exact .inr ⟨bm, h1, h2, h3.like e⟩
theorem mclone_any (w : World) (B b last : Nat) (v m : Value) (F : List Ft) (M : Mem w B b v m last F) :
    Calls Tryd.prog 30 #[m] w fun e w' => ∃ m', e = .returned m' ∧ MapT w' w.heap.size m' last F ∧ Below w.heap.size w w' := by
  rcases M.map with ⟨h1, rfl⟩ | ⟨bm, rfl, hbm, hM⟩
  · refine (mclone_none w).mono ?_
    rintro e w' ⟨rfl, rfl⟩
    exact ⟨_, rfl, .inl ⟨h1, rfl⟩, Below.refl _ _⟩
  · obtain ⟨D, ⟨es, clock, hb, h2⟩, hD⟩ := hM
    refine (mclone_some bm es clock w hb).mono ?_
    rintro e w' ⟨rfl, rfl⟩
    refine ⟨_, rfl, .inr ⟨w.heap.size, rfl, Nat.le_refl _, D, ⟨es, clock, ?_, h2⟩, hD⟩, alloc_below _ _⟩
    exact heap_alloc_new w _

def AllR (w : World) (F : List Ft) (w2 : World) (v : Value) : Prop := ∃ G, Rw 44 w2 w.heap.size v G ∧ G.map Ft.fc = F.map Ft.fc
theorem AllR.next {w w2 w3 : World} {F : List Ft} {v : Value} (h : AllR w F w2 v) (hb : Below w2.heap.size w2 w3) : AllR w F w3 v := by
  obtain ⟨G, h1, h2⟩ := h
  exact ⟨G, h1.next hb, h2⟩

set_option maxHeartbeats 4000000 in
set_option maxRecDepth 4000 in
theorem twin_any (w : World) (B b last : Nat) (v m : Value) (F : List Ft) (M : Mem w B b v m last F) (hn : F.length ≤ 5000) :
    Calls Tryd.prog 14 #[.pointer (some ⟨b, 0, none⟩)] w fun e w' => ∃ b' v' m' G, e = .returned (.pointer (some ⟨b', 0, none⟩)) ∧ Mem w' w.heap.size b' v' m' last G ∧ G.map Ft.fc = F.map Ft.fc ∧ Below w.heap.size w w' := by
  have HA : Hid (∀ w', Below w.heap.size w w' → Calls Tryd.prog 15 #[.pointer (some ⟨b, 0, none⟩)] w' fun e w2 => ∃ ao n cap, e = .returned (.slice ao n cap) ∧ AllR w F w2 (.slice ao n cap) ∧ Below w'.heap.size w' w2) := by
    intro w' hb
    refine (all_any w' B b last v m F (M.next hb) hn).mono ?_
    rintro e w2 ⟨v', G, he, hR, hE, hb2⟩
    obtain ⟨ao, cap, rfl, _, _⟩ := hR.slice
    exact ⟨ao, _, cap, he, ⟨G, hR.base hb.size, hE⟩, hb2⟩
  have HC : Hid (∀ w', Below w.heap.size w w' → Calls Tryd.prog 30 #[m] w' fun e w2 => ∃ mo, e = .returned (.map mo) ∧ MapT w2 w.heap.size (.map mo) last F ∧ Below w'.heap.size w' w2) := by
    intro w' hb
    refine (mclone_any w' B b last v m F (M.next hb)).mono ?_
    rintro e w2 ⟨m', he, hT, hb2⟩
    rcases hT with ⟨h, rfl⟩ | ⟨bm, rfl, h2, h3⟩
    · exact ⟨_, he, .inl ⟨h, rfl⟩, hb2⟩
    · exact ⟨_, he, .inr ⟨bm, rfl, Nat.le_trans hb.size h2, h3⟩, hb2⟩
  have HG : Hid (Good F last ∧ last ≤ 5000) := ⟨M.good, M.small⟩
  have c1 : w.cell? ⟨b, 1, none⟩ = some m := M.box.cell 1
  have c2 : w.cell? ⟨b, 2, none⟩ = some (.int .i64 last) := M.box.cell 2
  have hbb : Below w.heap.size w w.drew := (Below.refl _ _).drew
  clear M
  go_enter Tryd.func14, Tryd.ntmps14
  go_wp2
  go_region_held3 (fun w' => w'.cell? ⟨b, 1, none⟩ = some m ∧ w'.cell? ⟨b, 2, none⟩ = some (.int .i64 last) ∧ Below w.heap.size w w')
    (((try dsimp only); go_split_ands; refine ⟨?_, ?_, ?_⟩ <;> first | assumption | exact keep_cell (by assumption) (by assumption) | exact alloc_cell (by assumption) | exact next_trans (by assumption) (by assumption) | exact next_trans (by assumption) (alloc_below _ _)))
    (first
      | (go_at_call 15; go_split_ands; refine (HA.out _ (by assumption)).mono ?_; rintro e w2 ⟨ao2, n2, cap2, rfl, hR2, hb2⟩; have HR2 : Hid (∀ w', Below w2.heap.size w2 w' → AllR w F w' (.slice ao2 n2 cap2)) := fun w' hb => hR2.next hb; clear hR2)
      | (go_at_call 30; go_split_ands; refine (HC.out _ (by assumption)).mono ?_; rintro e w3 ⟨m3, rfl, hT3, hb3⟩; have HT3 : Hid (∀ w', Below w3.heap.size w3 w' → MapT w' w.heap.size (.map m3) last F) := fun w' hb => hT3.next hb; clear hT3))
  have hfin : Hid (∃ G, Mem (w3.alloc (.cells #[.slice ao2 n2 cap2, .map m3, .int .i64 last] 61)) w.heap.size w3.heap.size (.slice ao2 n2 cap2) (.map m3) last G ∧ G.map Ft.fc = F.map Ft.fc ∧ Below w.heap.size w (w3.alloc (.cells #[.slice ao2 n2 cap2, .map m3, .int .i64 last] 61))) := by
    obtain ⟨G, h1, h2⟩ := HR2.out _ (next_trans hb3 (alloc_below w3 (.cells #[.slice ao2 n2 cap2, .map m3, .int .i64 last] 61)))
    have hb : Below w.heap.size w w3 := next_trans (below_undrawn hb2) hb3
    refine ⟨G, ⟨Bk.made _ _ _, hb.size, h1, ?_, HG.out.1.like h2.symm, HG.out.2⟩, h2, next_trans hb (alloc_below _ _)⟩
    exact (HT3.out _ (alloc_below _ _)).like h2.symm
  clear hb2 hb3 HR2 HT3 HA HC
  go_wp2
  go_ret
  obtain ⟨G, h1, h2, h3⟩ := hfin.out
  exact ⟨_, _, _, G, rfl, h1, h2, h3⟩
end Go.Proofs.YtgjnnahflaaagaaDoor
