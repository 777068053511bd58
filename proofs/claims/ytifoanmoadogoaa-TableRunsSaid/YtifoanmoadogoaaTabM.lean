/- A table's cells, all; Copy. Condition: the table's cells are as stated. -/
import Derived.Test.YtifoanmoadogoaaTabE
import Derived.Deep.WholeRow
import Derived.Deep.MidRow
namespace Go.Proofs.Ytifoanmoadogoaa
open Go.RowKit
attribute [local go_sem] Oper.semAt_some

/-- A table's cells, all. -/
def tabArr (f : Nat → Sl) : Array Value := (Array.range 96).map fun j => if j % 3 = 0 then .bool (f (j / 3)).tk else if j % 3 = 1 then .bool (f (j / 3)).mr else .int .i64 (f (j / 3)).x
theorem tabArr_size (f : Nat → Sl) : (tabArr f).size = 96 := by simp [tabArr]
theorem tabArr_at (f : Nat → Sl) (j : Nat) (hj : j < 96) : (tabArr f)[j]? = some (if j % 3 = 0 then .bool (f (j / 3)).tk else if j % 3 = 1 then .bool (f (j / 3)).mr else .int .i64 (f (j / 3)).x) := by
  simp [tabArr, hj]
theorem tabArr_one (f : Nat → Sl) : (tabArr f).all (·.oneCell') = true := by
  rw [Array.all_eq_true]
  intro i hi
  have h1 := tabArr_at f i (by rw [tabArr_size] at hi; exact hi)
  rw [Array.getElem?_eq_getElem hi] at h1
  rw [Option.some.inj h1]
  split
  · rfl
  · split <;> rfl
theorem TabAt.range {w : World} {T : Nat} {f : Nat → Sl} (h : TabAt w T f) : w.rangeAt T 0 (tabArr f).toList := fun j v hv => by
  rw [Array.getElem?_toList] at hv
  have hj : j < 96 := by
    have := (Array.getElem?_eq_some_iff.1 hv).1
    rwa [tabArr_size] at this
  rw [tabArr_at f j hj] at hv
  obtain rfl := Option.some.inj hv
  rw [Nat.zero_add]
  have h3 : j % 3 = 0 ∨ j % 3 = 1 ∨ j % 3 = 2 := by omega
  rcases h3 with e | e | e
  · rw [if_pos e]
    have := h.c0 (j / 3) (by omega)
    rwa [show j / 3 * 3 = j by omega] at this
  · rw [if_neg (by omega), if_pos e]
    have := h.c1 (j / 3) (by omega)
    rwa [show j / 3 * 3 + 1 = j by omega] at this
  · rw [if_neg (by omega), if_neg (by omega)]
    have := h.c2 (j / 3) (by omega)
    rwa [show j / 3 * 3 + 2 = j by omega] at this
theorem tab_made2 (w : World) (f : Nat → Sl) : TabAt (w.alloc (.cells (tabArr f) 100)) w.heap.size f := by
  have hB := heap_made w (.cells (tabArr f) 100)
  refine ⟨fun i hi => ?_, fun i hi => ?_, fun i hi => ?_, fun o => by unfold World.frozen?; rw [hB]; simp⟩
  · simp only [World.cell?, hB]
    have : i * 3 % 3 = 0 := by omega
    simp [tabArr_at f (i * 3) (by omega)]
  · simp only [World.cell?, hB]
    have h1 : (i * 3 + 1) % 3 = 1 := by omega
    have h2 : (i * 3 + 1) / 3 = i := by omega
    simp [tabArr_at f (i * 3 + 1) (by omega), h1, h2]
  · simp only [World.cell?, hB]
    have h1 : (i * 3 + 2) % 3 = 2 := by omega
    have h2 : (i * 3 + 2) / 3 = i := by omega
    simp [tabArr_at f (i * 3 + 2) (by omega), h1, h2]
theorem tab_load {w : World} {T : Nat} {f : Nat → Sl} (h : TabAt w T f) : (Instr.loadAt 100 (.pointer (some ⟨T, 0, none⟩))).run Try.prog w = .ok (.agg (tabArr f)) w := by
  have := run_loadAt_mid (P := Try.prog) w T 0 100 (tabArr f).toList _ h.range Try.underlying100 rfl (by rw [Array.length_toList, tabArr_size]; kernel_rfl)
  exact this
theorem tab_store (w : World) (f : Nat → Sl) : (storeCells ⟨w.heap.size, 0, none⟩ (tabArr f).toList).run Try.prog (w.alloc (.cells tabZero 100)) = .ok () (w.alloc (.cells (tabArr f) 100)) :=
  run_storeCells_new w 100 tabZero (tabArr f) (by rw [tabArr_size]; kernel_rfl) (by rw [tabArr_size]; simp [tabZero]) (tabArr_one f)

set_option maxRecDepth 100000 in
set_option maxHeartbeats 1000000 in
theorem tcopy_any {T : Nat} {f : Nat → Sl} (w : World) (h : TabAt w T f) :
    Calls Try.prog 38 #[.pointer (some ⟨T, 0, none⟩)] w fun e w' => e = .returned (.pointer (some ⟨w.heap.size, 0, none⟩)) ∧ TabAt w' w.heap.size f ∧ Below w.heap.size w w' := by
  have hz := zero100
  have hl := Lib.hid h.range
  have hst := tab_store w f
  have hbs := tabArr_size f
  have hsz : Hid ((Try.prog.info? 100).map (·.size) = some (tabArr f).toList.length) := Lib.hid (by rw [Array.length_toList, tabArr_size]; kernel_rfl)
  have hm := Lib.hid (tab_made2 w f)
  clear h
  go_enter Try.func38, Try.ntmps38
  go_wp2_with fail
  refine wp_load_mid 100 (.tmp 7) rfl T 0 rfl (tabArr f).toList _ hl.out Try.underlying100 rfl hsz.out ?_
  go_wp2_with fail
  go_ret
  exact ⟨rfl, hm.out, (Below.refl _ w).alloc (Nat.le_refl _) _⟩
end Go.Proofs.Ytifoanmoadogoaa
