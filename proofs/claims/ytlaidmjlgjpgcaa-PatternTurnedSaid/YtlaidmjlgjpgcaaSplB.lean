/- The maker's end, at a field that is begun and at none. No condition but lengths. -/
import Derived.Test.YtlaidmjlgjpgcaaSplA
namespace Go.Proofs.Ytlaidmjlgjpgcaa
open Go.RowKit

/-- The maker stands at m in the world w'. -/
def Stands (n₀ mb : Nat) (m : Mk) (w : World) (v : Value) (e : Ending) (w' : World) : Prop :=
  e = .returned v ∧ Keep n₀ mb w w' ∧ ∃ vf vc sl, MkAt n₀ mb m vf vc sl w'

/-- A store into the maker's own cells leaves the rows as they are. -/
theorem row_set {w : World} {mb o : Nat} {u : Value} {cs : Array Value} {fr : Nat × Nat} (ht : w.heap[mb]? = some (.cells cs 65 fr)) {base e size k : Nat} {v : Value} {xs : List Value} (he : 65 ≠ e) (h : w.ownsRow base e size v k xs) : (w.setCell ⟨mb, o, none⟩ u).ownsRow base e size v k xs := by
  refine h.kept (row := some mb) ?_ (.inr (fun e2 => row_ne ht he h e2.symm))
  exact ⟨rfl, rfl, rfl, by rw [World.size_setCell]; exact Nat.le_refl _, fun k _ hk => Below.heap_setCell _ _ _ _ (by simpa using hk)⟩
theorem ty_set {w : World} {mb o : Nat} {u : Value} (h : ∃ cs fr, w.heap[mb]? = some (.cells cs 65 fr)) : ∃ cs fr, (w.setCell ⟨mb, o, none⟩ u).heap[mb]? = some (.cells cs 65 fr) := by
  obtain ⟨cs, fr, h⟩ := h
  simp only [World.setCell, Array.getElem?_modify, if_true, h]
  exact ⟨_, _, rfl⟩

theorem cell_set_ne {w : World} {b o o' : Nat} (h : o' ≠ o) (u : Value) : (w.setCell ⟨b, o, none⟩ u).cell? ⟨b, o', none⟩ = w.cell? ⟨b, o', none⟩ :=
  World.cell?_setCell_other _ _ _ _ (by simp)
theorem cell_set_same {w : World} {b o : Nat} {v : Value} (h : w.cell? ⟨b, o, none⟩ = some v) (u : Value) : (w.setCell ⟨b, o, none⟩ u).cell? ⟨b, o, none⟩ = some u :=
  World.cell?_setCell_same _ _ _ h

theorem MkAt.set2 {n₀ mb : Nat} {m : Mk} {vf vc : Value} {sl : List Value} {w : World} (h : MkAt n₀ mb m vf vc sl w) (b : Bool) : MkAt n₀ mb { m with b := b } vf vc sl (w.setCell ⟨mb, 2, none⟩ (.bool b)) := by
  obtain ⟨cs, fr, ht⟩ := h.ty
  refine ⟨by rw [cell_set_ne (by omega)]; exact h.c0, by rw [cell_set_ne (by omega)]; exact h.c1, cell_set_same h.c2 _, by rw [cell_set_ne (by omega)]; exact h.c3, fun o => by rw [World.frozen?_setCell]; exact h.fz o, ty_set h.ty, h.hb, row_set ht (by decide) h.rf, row_set ht (by decide) h.rc, h.sls.1, fun j v f h1 h2 => ?_⟩
  have := h.sls.2 j v f h1 h2
  exact ⟨row_set ht (by decide) this.1, this.2⟩
theorem MkAt.set3 {n₀ mb : Nat} {m : Mk} {vf vc : Value} {sl : List Value} {w : World} (h : MkAt n₀ mb m vf vc sl w) (b : Bool) : MkAt n₀ mb { m with s := b } vf vc sl (w.setCell ⟨mb, 3, none⟩ (.bool b)) := by
  obtain ⟨cs, fr, ht⟩ := h.ty
  refine ⟨by rw [cell_set_ne (by omega)]; exact h.c0, by rw [cell_set_ne (by omega)]; exact h.c1, by rw [cell_set_ne (by omega)]; exact h.c2, cell_set_same h.c3 _, fun o => by rw [World.frozen?_setCell]; exact h.fz o, ty_set h.ty, h.hb, row_set ht (by decide) h.rf, row_set ht (by decide) h.rc, h.sls.1, fun j v f h1 h2 => ?_⟩
  have := h.sls.2 j v f h1 h2
  exact ⟨row_set ht (by decide) this.1, this.2⟩
/-- No field at hand. -/
theorem MkAt.set1 {n₀ mb : Nat} {m : Mk} {vf vc : Value} {sl : List Value} {w : World} (h : MkAt n₀ mb m vf vc sl w) : MkAt n₀ mb { m with f := [] } vf (.slice none 0 0) sl (w.setCell ⟨mb, 1, none⟩ (.slice none 0 0)) := by
  obtain ⟨cs, fr, ht⟩ := h.ty
  refine ⟨by rw [cell_set_ne (by omega)]; exact h.c0, cell_set_same h.c1 _, by rw [cell_set_ne (by omega)]; exact h.c2, by rw [cell_set_ne (by omega)]; exact h.c3, fun o => by rw [World.frozen?_setCell]; exact h.fz o, ty_set h.ty, h.hb, row_set ht (by decide) h.rf, World.ownsRow_nil _ _ _ _, h.sls.1, fun j v f h1 h2 => ?_⟩
  have := h.sls.2 j v f h1 h2
  exact ⟨row_set ht (by decide) this.1, fun g _ => by simp [Value.ownBlock]⟩

set_option maxHeartbeats 1000000 in
theorem end_no {n₀ mb : Nat} {m : Mk} {vf vc : Value} {sl : List Value} (w : World) (h : MkAt n₀ mb m vf vc sl w) (hb : m.b = false) :
    Calls Try.prog 43 #[.pointer (some ⟨mb, 0, none⟩)] w (Stands n₀ mb m.fin w (.bool false)) := by
  have h1 := h.c1
  have h2 := h.c2
  rw [hb] at h2
  have f1 := h.fz 1
  have f2 := h.fz 2
  have hH := Lib.hid h
  have hfin : Hid (m.fin = { { m with f := [] } with b := false }) := Lib.hid (by unfold Mk.fin; rw [hb]; rfl)
  have hn := h.hb
  clear h hb
  go_enter Try.func43, Try.ntmps43
  go_wp2
  go_ret
  refine ⟨rfl, (Keep.set w hn 1 _).trans (Keep.set _ hn 2 _), ?_⟩
  rw [hfin.out]
  exact ⟨_, _, _, hH.out.set1.set2 false⟩
end Go.Proofs.Ytlaidmjlgjpgcaa
