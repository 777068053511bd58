/- The laws' awake; a row of tokens, cell by cell. No condition. -/
import Derived.Test.YtkakphiofahlgaaDoorLxO
namespace Go.Proofs.YtkakphiofahlgaaDoor
open Go.RowKit Go.PlainAid
attribute [local go_sem] Oper.semAt_some

/-- A token's five cells. -/
structure TkAt (w : World) (g k : Nat) (t : Tk) : Prop where
  kind : w.cell? ⟨g, k * 5, none⟩ = some (.int .i64 t.kind)
  text : w.cell? ⟨g, k * 5 + 1, none⟩ = some (.string t.text)
  place : w.cell? ⟨g, k * 5 + 2, none⟩ = some (.int .i64 t.place)
  doc : w.cell? ⟨g, k * 5 + 3, none⟩ = some (.string t.doc)
  raw : w.cell? ⟨g, k * 5 + 4, none⟩ = some (.bool t.raw)
theorem row_form {w : World} {n₀ n c : Nat} {a : Option Addr} {ts : List Tk} (hn : n = ts.length) (h : w.ownsRow n₀ 28 5 (.slice a n c) n (tv ts)) (hp : 0 < n) :
    ∃ g, a = some ⟨g, 0, none⟩ ∧ n₀ ≤ g ∧ g < w.heap.size ∧ ∀ (k : Nat) (t : Tk), ts[k]? = some t → TkAt w g k t := by
  obtain ⟨g, cap, hv, _, _⟩ := h.form hp
  obtain ⟨rfl, rfl⟩ : a = some ⟨g, 0, none⟩ ∧ c = cap := by simpa using hv
  refine ⟨g, rfl, (h.lt g rfl).1, (h.lt g rfl).2, fun k t hk => ?_⟩
  have hk2 := (List.getElem?_eq_some_iff.1 hk).1
  have hc : ∀ j, j < 5 → w.cell? ⟨g, k * 5 + j, none⟩ = t.cells[j]? := fun j hj => by rw [h.cellAt _ (by omega), tv_get ts k j t hk hj]
  exact ⟨hc 0 (by omega), hc 1 (by omega), hc 2 (by omega), hc 3 (by omega), hc 4 (by omega)⟩
theorem TkAt.keep {w w1 : World} {g k : Nat} {t : Tk} (h : TkAt w g k t) (hg : w1.heap[g]? = w.heap[g]?) : TkAt w1 g k t :=
  ⟨(World.cell?_of_block hg).trans h.kind, (World.cell?_of_block hg).trans h.text, (World.cell?_of_block hg).trans h.place, (World.cell?_of_block hg).trans h.doc, (World.cell?_of_block hg).trans h.raw⟩

theorem aw_line : topM ⟨#[97, 32, 34, 98, 32, 99, 34, 124, 100, 10]⟩ 0 = ⟨[⟨1, ⟨#[97]⟩, 0, ⟨#[]⟩, false⟩, ⟨1, ⟨#[34, 98, 32, 99, 34]⟩, 2, ⟨#[]⟩, false⟩, ⟨2, ⟨#[124]⟩, 7, ⟨#[]⟩, false⟩, ⟨1, ⟨#[100]⟩, 8, ⟨#[]⟩, false⟩, ⟨3, ⟨#[10]⟩, 9, ⟨#[]⟩, false⟩], 10, 0, 0⟩ := by kernel_rfl

set_option maxRecDepth 100000 in
set_option maxHeartbeats 4000000 in
theorem awake_any (w : World) : Calls Tryd.prog 8 #[] w fun e w' => e = .returned (.bool true) ∧ Below w.heap.size w w' := by
  have hc := Line_any ⟨#[97, 32, 34, 98, 32, 99, 34, 124, 100, 10]⟩ 0 w
  rw [aw_line] at hc
  have hcH := Lib.hid hc
  clear hc
  go_enter Tryd.func8, Tryd.ntmps8
  go_wp2_with fail
  refine hcH.out.mono ?_
  rintro e w' ⟨a, c, rfl, hrow, hbel⟩
  obtain ⟨g, rfl, _, _, hk⟩ := row_form rfl hrow (by decide)
  have k1 : w'.cell? ⟨g, 6, none⟩ = some (.string ⟨#[34, 98, 32, 99, 34]⟩) := (hk 1 _ rfl).text
  have k2 : w'.cell? ⟨g, 10, none⟩ = some (.int .i64 2) := (hk 2 _ rfl).kind
  have k4 : w'.cell? ⟨g, 20, none⟩ = some (.int .i64 3) := (hk 4 _ rfl).kind
  have hbH := Lib.hid hbel
  clear hk hrow hbel
  go_wp2
  go_ret
  exact ⟨rfl, hbH.out⟩
end Go.Proofs.YtkakphiofahlgaaDoor
